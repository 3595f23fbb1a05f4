/- The law of weakened filters answers true. -/
import Derived.Test.YtefecpidccpimaaLpcJ
import Derived.Test.YtefecpidccpimaaNumB
namespace Go.Proofs.Ytefecpidccpimaa
open Go.RowKit

theorem chirp_between {f c : Int} {k : Nat} (hf : -131072 ≤ f ∧ f ≤ 131072) : (0 < chirpN (clampI c 0 65536) k f → chirpN (clampI c 0 65536) k f ≤ f) ∧ (chirpN (clampI c 0 65536) k f < 0 → f ≤ chirpN (clampI c 0 65536) k f) := by
  have h2 := clampI_in c 0 65536 (by decide)
  have h3 := chirpN_less (v := f) (c := clampI c 0 65536) (by omega) (by omega) h2.1 h2.2 k
  generalize chirpN (clampI c 0 65536) k f = x at *
  rcases Int.le_total 0 f with h | h
  · have := h3.1 h; omega
  · have := h3.2 h; omega

set_option maxHeartbeats 1000000 in
theorem chirps_far (a : Option Addr) (n cap : Nat) (c : Int) (w : World) (hn : 32 < n) (_h63 : n ≤ 9223372036854775807) :
    Calls Try.prog 7 #[.slice a n cap, .int .i64 c] w fun e w' => e = .returned (.bool true) ∧ Below w.heap.size w w' := by
  have hn' : ((32 : Int) < n) = True := eq_true (by omega)
  go_enter Try.func7, Try.ntmps7
  go_wp2_with (first
    | (go_at_call 9; refine (awake_any _).mono ?_; rintro e w1 ⟨rfl, hB⟩)
    | (go_at_call 12; refine (cfit_far _ _ _ _ hn).mono ?_; rintro e w2 ⟨rfl, rfl⟩))
  go_ret
  exact ⟨rfl, hB⟩

set_option maxRecDepth 100000 in
set_option maxHeartbeats 4000000 in
theorem chirps_near (a : Option Addr) (n cap : Nat) (zs : List Int) (c : Int) (w : World) (hz : Zs w a n zs) (hn : n ≤ 32) :
    Calls Try.prog 7 #[.slice a n cap, .int .i64 c] w fun e w' => e = .returned (.bool true) ∧ Below w.heap.size w w' := by
  have hl := hz.len
  have hn' : ((32 : Int) < n) = False := eq_false (by omega)
  have HFL : Hid ((fitZ zs).length = n) := by show _ = _; rw [fitZ_len (by omega), hl]
  have hwi := fitZ_within zs
  have HIN : Hid (∀ k, k < n → (0 < chirpN (clampI c 0 65536) (k + 1) ((fitZ zs)[k]?.getD 0) → chirpN (clampI c 0 65536) (k + 1) ((fitZ zs)[k]?.getD 0) ≤ (fitZ zs)[k]?.getD 0) ∧ (chirpN (clampI c 0 65536) (k + 1) ((fitZ zs)[k]?.getD 0) < 0 → (fitZ zs)[k]?.getD 0 ≤ chirpN (clampI c 0 65536) (k + 1) ((fitZ zs)[k]?.getD 0))) := fun k hk =>
    chirp_between (hwi _ (mem_at (by rw [HFL.out]; exact hk)))
  have HAT : Hid (∀ k, k < n → (chirpL (fitZ zs) c)[k]?.getD 0 = chirpN (clampI c 0 65536) (k + 1) ((fitZ zs)[k]?.getD 0)) := fun k hk => chirpL_at (by rw [HFL.out]; exact hk)
  have HCL : Hid ((chirpL (fitZ zs) c).length = n) := by show _ = _; rw [chirpL_len, HFL.out]
  have H1 : Hid (chirpL (fitZ zs) 65536 = fitZ zs) := chirpL_all hwi
  have H0 : Hid (chirpL (fitZ zs) 0 = List.replicate n 0) := by show _ = _; rw [chirpL_none, HFL.out]
  have HZA : Hid (∀ W, Below w.heap.size w W → Zs W a n zs) := fun W hW => hz.keep hW
  clear hz hl hwi
  have HFIT : Hid (∀ W, Below w.heap.size w W → Calls Try.prog 12 #[.slice a n cap] W fun e w' => ∃ a', e = .returned (.slice a' n n) ∧ NewRow 2 W.heap.size w' a' (fitZ zs) ∧ Below W.heap.size W w') := fun W hW => cfit_any a n cap zs W (HZA.out W hW) hn
  generalize fitZ zs = f at *
  have HC1 : Hid (∀ W a1, Zs W a1 n f → Calls Try.prog 13 #[.slice a1 n n, .int .i64 65536] W fun e w' => ∃ a', e = .returned (.slice a' n n) ∧ Zs w' a' n f ∧ Below W.heap.size W w') := fun W a1 h => by
    refine (chirp_any a1 n n f 65536 W h hn).mono ?_
    rw [H1.out]
    rintro e w' ⟨a', rfl, hn1, hb⟩
    exact ⟨a', rfl, Zs.of_new hn1 HFL.out, hb⟩
  have HC0 : Hid (∀ W a1, Zs W a1 n f → Calls Try.prog 13 #[.slice a1 n n, .int .i64 0] W fun e w' => ∃ a', e = .returned (.slice a' n n) ∧ Zs w' a' n (List.replicate n 0) ∧ Below W.heap.size W w') := fun W a1 h => by
    refine (chirp_any a1 n n f 0 W h hn).mono ?_
    rw [H0.out]
    rintro e w' ⟨a', rfl, hn1, hb⟩
    exact ⟨a', rfl, Zs.of_new hn1 (by simp), hb⟩
  have HCC : Hid (∀ W a1, Zs W a1 n f → Calls Try.prog 13 #[.slice a1 n n, .int .i64 c] W fun e w' => ∃ a', e = .returned (.slice a' n n) ∧ Zs w' a' n (chirpL f c) ∧ Below W.heap.size W w') := fun W a1 h => by
    refine (chirp_any a1 n n f c W h hn).mono ?_
    rintro e w' ⟨a', rfl, hn1, hb⟩
    exact ⟨a', rfl, Zs.of_new hn1 HCL.out, hb⟩
  have HSM : Hid (∀ W a1 a2 l, Zs W a1 n l → Zs W a2 n l → Calls Try.prog 15 #[.slice a1 n n, .slice a2 n n] W fun e w' => e = .returned (.bool true) ∧ ∃ k, w' = W.drewN k) := fun W a1 a2 l h1 h2 => zsame_any a1 a2 n n n l W h1 h2 (by omega)
  have hmk := fun W : World => run_make_row' (P := Try.prog) 23 2 (.int .i64 0) 8 Try.underlying23 info_int64 rfl .i64 .i64 n (by omega) (by omega) W
  have e3 : ((n : Int) == (n : Int)) = true := by simp
  generalize chirpL f c = x at *
  clear H1 H0 HZA
  go_enter Try.func7, Try.ntmps7
  go_wp2_with (first
    | (go_at_call 9; refine (awake_any _).mono ?_; rintro e w1 ⟨rfl, hB⟩)
    | (go_at_call 12; refine (HFIT.out _ hB).mono ?_; rintro e w2 ⟨a2, rfl, hn2, hb2⟩))
  have HB2 : Hid (Below w.heap.size w w2) := hB.trans (hb2.mono hB.size)
  have HF2 : Hid (∀ W, Below w2.heap.size w2 W → Zs W a2 n f) := fun W hW => (Zs.of_new hn2 HFL.out).keep hW
  clear hB hb2 hn2 HFIT
  have hd2 : Below w2.heap.size w2 w2.drew := (Below.refl _ _).drew
  have y1 : Hid True := trivial
  have y2 : Hid True := trivial
  go_region_with (first
    | (go_at_call 13; clear y1; refine (HC1.out _ _ (HF2.out _ hd2)).mono ?_; rintro e w3 ⟨a3, rfl, hz3, hb3⟩; have hB3 := hd2.trans (hb3.mono hd2.size))
    | (go_at_call 15; clear y2; refine (HSM.out _ _ _ f hz3 (HF2.out _ hB3)).mono ?_; rintro e _ ⟨rfl, d4, rfl⟩; have hB4 := below_drewN hB3 d4)
    | (go_at_call 13; refine (HC0.out _ _ (HF2.out _ (by first | exact hB4 | exact hB4.alloc hB4.size _))).mono ?_; rintro e w5 ⟨a5, rfl, hz5, hb5⟩)
    | (go_at_call 15; refine (HSM.out _ _ _ (List.replicate n 0) (by first | exact hz5 | exact hz5.alloc _) (by first | exact zs_made w5 n rfl | exact (zs_made (w3.drewN d4) n rfl).keep hb5)).mono ?_; rintro e _ ⟨rfl, d6, rfl⟩; (first | (have hB6 := below_drewN ((hB4.trans (hb5.mono hB4.size)).alloc (hB4.trans (hb5.mono hB4.size)).size (.cells (madeCells #[.int .i64 0] n) 2)) d6) | (have hB6 := below_drewN ((hB4.alloc hB4.size (.cells (madeCells #[.int .i64 0] n) 2)).trans (hb5.mono (hB4.alloc hB4.size (.cells (madeCells #[.int .i64 0] n) 2)).size)) d6))))
  all_goals
    have HB7 : Hid _ := hB6
    clear hB6 hB4 hb5 hz5 hB3 hb3 hz3 HC1 HC0 HSM hmk
    go_wp2_with (go_at_call 13; refine (HCC.out _ _ (HF2.out _ HB7.out)).mono ?_; rintro e w8 ⟨a8, rfl, hz8, hb8⟩)
    have HB8 : Hid (Below w2.heap.size w2 w8) := HB7.out.trans (hb8.mono HB7.out.size)
    have HZX : Hid (Zs w8 a8 n x) := hz8
    have HZF : Hid (Zs w8 a2 n f) := HF2.out _ HB8.out
    have HBE : Hid (Below w.heap.size w w8) := HB2.out.trans (HB8.out.mono HB2.out.size)
    clear hz8 hb8 HB7 HF2 HCC
    go_loopw [7] (fun i W => (∃ d, W = w8.drewN d) ∧ ∃ k : Nat, k ≤ n ∧ i = .int .i64 k) (fun i _ => n - (intOf i).toNat)
    case atStart => exact ⟨⟨0, rfl⟩, 0, Nat.zero_le _, rfl⟩
    case round =>
      obtain ⟨⟨d, rfl⟩, k, hk, rfl⟩ := hrel
      by_cases hlt : k < n
      · have hlt' : ((k : Int) < (n : Int)) = True := eq_true (by omega)
        obtain ⟨xb, xo, rfl, _, hcx⟩ := HZX.out.at_ (by omega)
        obtain ⟨fb, fo, rfl, _, hcf⟩ := HZF.out.at_ (by omega)
        have hx := hcx k hlt
        have hf := hcf k hlt
        have hi := HIN.out k hlt
        rw [← HAT.out k hlt] at hi
        clear hcx hcf HIN HAT HZX HZF
        generalize x[k]?.getD 0 = xv at *
        generalize f[k]?.getD 0 = fv at *
        rcases Int.lt_trichotomy xv 0 with hs | hs | hs
        · have e5 : ((0 : Int) < xv) = False := eq_false (by omega)
          have e6 : (xv < (0 : Int)) = True := eq_true hs
          have e7 : (xv < fv) = False := eq_false (by have := hi.2 hs; omega)
          clear hi hs
          go_wp2
          go_quiet (fail)
          all_goals
            go_wp2
            go_roundw
            case rel => exact ⟨⟨_, rfl⟩, k + 1, by omega, by go_num⟩
            case measure => simp [intOf]; omega
        · have e5 : ((0 : Int) < xv) = False := eq_false (by omega)
          have e6 : (xv < (0 : Int)) = False := eq_false (by omega)
          clear hi hs
          go_wp2
          go_quiet (fail)
          all_goals
            go_wp2
            go_roundw
            case rel => exact ⟨⟨_, rfl⟩, k + 1, by omega, by go_num⟩
            case measure => simp [intOf]; omega
        · have e5 : ((0 : Int) < xv) = True := eq_true hs
          have e6 : (fv < xv) = False := eq_false (by have := hi.1 hs; omega)
          have e7 : (xv < (0 : Int)) = False := eq_false (by omega)
          clear hi hs
          go_wp2
          go_quiet (fail)
          all_goals
            go_wp2
            go_roundw
            case rel => exact ⟨⟨_, rfl⟩, k + 1, by omega, by go_num⟩
            case measure => simp [intOf]; omega
      · have hlt' : ((k : Int) < (n : Int)) = False := eq_false (by omega)
        clear HIN HAT HZX HZF
        go_wp2
        go_ret
        exact ⟨rfl, below_drewN HBE.out d⟩

theorem lpcChirps.walk (a : Option Addr) (n cap : Nat) (z : List Int) (c : Int) (w : World) (hz : IsRow .i64 w a n cap z) (_h2 : (Lit.int .i64 c).wf = true) :
    Calls Try.prog 7 #[.slice a n cap, .int .i64 c] w fun e w' => e = .returned (.bool true) ∧ Below w.heap.size w w' := by
  obtain ⟨h1, h2, _⟩ := Zs.of_isRow hz
  rcases Nat.lt_or_ge 32 n with h | h
  · exact chirps_far a n cap c w h (by unfold maxLen at h2; omega)
  · exact chirps_near a n cap _ c w h1 h

end Go.Proofs.Ytefecpidccpimaa
