/- Pulses are left out as the document says, none grows, what is left may be written: whatever the list and the number. -/
import Derived.Test.YtdbgcbbfnjoebaaPulseBackWalk
import Derived.Test.YtdbgcbbfnjoebaaPulseU
import Derived.Test.YtdbgcbbfnjoebaaPulseW
namespace Go.Proofs.Ytdbgcbbfnjoebaa
open Go.RowKit

theorem notgrown {x y : Int} (h : Lessened x y) : (0 < y → ¬ x < y) ∧ (y < 0 → ¬ y < x) := by
  unfold Lessened at h
  omega

set_option maxRecDepth 100000 in
set_option maxHeartbeats 1600000 in
theorem pulseFewer.far (r : Option Addr) (n cap : Nat) (zs : List Int) (most : Int) (w : World) (hz : Zs w r n zs) (hn : n ≤ 9223372036854775807) (hfar : 480 < n) :
    Calls Try.prog 6 #[.slice r n cap, .int .i64 most] w fun e w' => e = .returned (.bool true) ∧ Below w.heap.size w w' := by
  have hb := Below.refl w.heap.size w
  have HZ : Hid (∀ W, Below w.heap.size w W → Zs W r n zs) := fun W hW => hz.keep hW
  have HL : Hid (zs.length = n) := hz.len
  by_cases h600 : 600 < n
  · have h1 : (600 : Int) < n := by omega
    clear hz hfar h600
    go_enter Try.func6, Try.ntmps6
    go_wp2_with (go_at_call 9; refine (awake_any _).mono ?_; rintro e w1 ⟨rfl, hb1⟩; replace hb := hb.trans (hb1.mono hb.size); clear hb1)
    go_ret
    exact ⟨rfl, hb⟩
  · have h1 : (n : Int) ≤ 600 := by omega
    have h2 : (480 : Int) < n := by omega
    have HN : Hid (n ≤ 1000 ∧ 480 < n) := ⟨by omega, hfar⟩
    clear hz hfar h600 hn
    go_enter Try.func6, Try.ntmps6
    go_wp2_with (first
      | (go_at_call 9; refine (awake_any _).mono ?_; rintro e w1 ⟨rfl, hb1⟩; replace hb := hb.trans (hb1.mono hb.size); clear hb1)
      | (at_builtin; go_loud (refine wpList_append_own r n cap zs HL.out HN.out.1 (fun h => zs_adds (HZ.out _ hb) h) rfl _ _ rfl rfl rfl ?_; intro r3 c3 w3 hr3 hc3 hb3; replace hb := hb.trans (hb3.mono hb.size); clear hb3))
      | (go_at_call 16; go_loud (refine (fewer_far r3 n c3 most _ HN.out.2).mono ?_; rintro e w4 ⟨rfl, rfl⟩))
      | (go_at_call 24; go_loud (refine (rfewer_far r n cap most _ HN.out.2).mono ?_; rintro e w5 ⟨rfl, rfl⟩))
      | (go_at_call 20; go_loud (refine (zsame_any none none 0 0 0 [] _ (Zs.nil _ _) (Zs.nil _ _) (by decide)).mono ?_; rintro e w6 ⟨rfl, k6, rfl⟩; replace hb := below_drewN hb k6)))
    go_ret
    exact ⟨rfl, hb⟩

set_option maxRecDepth 100000 in
set_option maxHeartbeats 3200000 in
theorem pulseFewer.near (r : Option Addr) (n cap : Nat) (zs : List Int) (most : Int) (w : World) (hz : Zs w r n zs) (hn : n ≤ 480) :
    Calls Try.prog 6 #[.slice r n cap, .int .i64 most] w fun e w' => e = .returned (.bool true) ∧ Below w.heap.size w w' := by
  have hb := Below.refl w.heap.size w
  have HZ : Hid (∀ W, Below w.heap.size w W → Zs W r n zs) := fun W hW => hz.keep hW
  have hl := hz.len
  have hfl := fewerL_len most zs
  have HF : Hid ((fewerL most zs).length = n ∧ zs.length = n ∧ n ≤ 480 ∧ ∀ j, j < n → Lessened (zs[j]?.getD 0) ((fewerL most zs)[j]?.getD 0)) := ⟨by omega, hl, hn, fun j hj => fewer_at most zs (by omega)⟩
  have HM : Hid (n % 16 = 0 → 0 < n → goodL (fewerL most zs) = true) := fun h1 h2 => fewer_may most (m := n / 16) (by omega) (by omega) (by omega)
  have h1 : (n : Int) ≤ 480 := by omega
  have h1b : ((480 : Int) < n) = False := eq_false (by omega)
  have h1c : ((600 : Int) < n) = False := eq_false (by omega)
  have HFE : Hid (∀ (a : Option Addr) (c : Nat) (W : World), Zs W a n zs → Calls Try.prog 16 #[.slice a n c, .int .i64 most] W fun e w' => ∃ g, e = .returned (.slice (some ⟨g, 0, none⟩) n n) ∧ NewRow 2 W.heap.size w' (some ⟨g, 0, none⟩) (fewerL most zs) ∧ Below W.heap.size W w') := fun a c W h => fewer_ex a n c most zs W h hn
  have HFR : Hid (∀ (a : Option Addr) (c : Nat) (W : World), Zs W a n zs → Calls Try.prog 24 #[.slice a n c, .int .i64 most] W fun e w' => ∃ a2 cap2, e = .returned (.slice a2 n cap2) ∧ NewRow 2 W.heap.size w' a2 (fewerL most zs) ∧ Below W.heap.size W w') := fun a c W h => rfewer_any a n c most zs W h hn
  generalize fewerL most zs = M at *
  clear hz hl hfl hn
  go_enter Try.func6, Try.ntmps6
  go_wp2_with (first
    | (go_at_call 9; refine (awake_any _).mono ?_; rintro e w1 ⟨rfl, hb1⟩; replace hb := hb.trans (hb1.mono hb.size); clear hb1)
    | (at_builtin; go_loud (refine wpList_append_own r n cap zs HF.out.2.1 (by have := HF.out.2.2.1; omega) (fun h => zs_adds (HZ.out _ hb) h) rfl _ _ rfl rfl rfl ?_; intro r3 c3 w3 hr3 hc3 hb3; have hbA := hb.trans (hb3.mono hb.size); clear hb3))
    | (go_at_call 16; go_loud (refine (HFE.out r3 c3 _ (Zs.of_new hr3 HF.out.2.1)).mono ?_; rintro e w4 ⟨g4, rfl, hr4, hb4⟩; have hbB := hbA.trans (hb4.mono hbA.size); clear hb4 hr3))
    | (go_at_call 24; go_loud (refine (HFR.out r cap _ (HZ.out _ hbB)).mono ?_; rintro e w5 ⟨a5, cap5, rfl, hr5, hb5⟩; have hr45 := hr4.keep hb5; have hbC := hbB.trans (hb5.mono hbB.size); clear hb5 hr4))
    | (go_at_call 20; go_loud (refine (zsame_any _ _ n n cap5 M _ (Zs.of_new hr45 HF.out.1) (Zs.of_new hr5 HF.out.1) (by have := HF.out.2.2.1; omega)).mono ?_; rintro e w6 ⟨rfl, k6, rfl⟩; have hbD := below_drewN hbC k6; have hr6 := hr45.drewN k6)))
  go_loopw [6] (fun x W => ∃ k : Nat, k ≤ n ∧ x = .int .i64 k ∧ Below w.heap.size w W ∧ ∃ B, NewRow 2 B W (some ⟨g4, 0, none⟩) M) (fun x _ => n - (intOf x).toNat)
  case atStart => exact ⟨0, Nat.zero_le _, rfl, hbD, _, hr6⟩
  case round =>
    clear hbD hr6 hbC hr45 hr5
    obtain ⟨k, hk, rfl, hb, B, hr⟩ := hrel
    by_cases hlt : k < n
    · obtain ⟨b, off, rfl, hbl, hc⟩ := (HZ.out _ hb).at_ (by omega)
      have hcx := hc k hlt
      have hcy := hr.cellAt (i := k) (by have := HF.out.1; omega)
      obtain ⟨u1, u2⟩ := notgrown (HF.out.2.2.2 k hlt)
      have HR : Hid (NewRow 2 B wr (some ⟨g4, 0, none⟩) M) := hr
      generalize zs[k]?.getD 0 = x at hcx u1 u2
      generalize M[k]?.getD 0 = y at hcy u1 u2
      have hkI : (k : Int) < n := by omega
      clear hc hbl hr
      by_cases hy : 0 < y
      · have hxy : (x < y) = False := eq_false (u1 hy)
        have hyn : (y < 0) = False := eq_false (by omega)
        clear u1 u2
        go_wp2
        go_quiet (fail)
        go_wp2
        go_roundw
        case rel => exact ⟨k + 1, by omega, by go_num, below_drewN hb _, B, HR.out.drewN _⟩
        case measure => simp [intOf]; omega
      · have hyp : (0 < y) = False := eq_false hy
        by_cases hz : y < 0
        · have hxy : (y < x) = False := eq_false (u2 hz)
          clear u1 u2 hy
          go_wp2
          go_quiet (fail)
          go_wp2
          go_roundw
          case rel => exact ⟨k + 1, by omega, by go_num, below_drewN hb _, B, HR.out.drewN _⟩
          case measure => simp [intOf]; omega
        · have hyn : (y < 0) = False := eq_false hz
          clear u1 u2 hy hz
          go_wp2
          go_quiet (fail)
          go_wp2
          go_roundw
          case rel => exact ⟨k + 1, by omega, by go_num, below_drewN hb _, B, HR.out.drewN _⟩
          case measure => simp [intOf]; omega
    · obtain rfl : k = n := by omega
      have hnk : ¬ ((k : Int) < k) := by omega
      by_cases h16 : k % 16 = 0
      · have e1 : (((k : Int) % 16) != 0) = false := by rw [show (k : Int) % 16 = 0 by omega]; rfl
        by_cases h0 : k = 0
        · subst h0
          clear hlt hk
          go_wp2
          go_ret
          exact ⟨rfl, hb⟩
        · have e2 : ((k : Int) == 0) = false := beq_eq_false_iff_ne.2 (by omega)
          have HGM : Hid (goodL M = true) := HM.out h16 (by omega)
          clear hlt hk h16 h0
          go_wp2_with (go_at_call 13; go_loud (refine (pgood_any _ k k M _ (Zs.of_new hr HF.out.1) (Nat.le_refl _)).mono ?_; rw [HGM.out]; rintro e w9 ⟨rfl, rfl⟩))
          go_ret
          exact ⟨rfl, hb⟩
      · have e1 : (((k : Int) % 16) != 0) = true := bne_iff_ne.2 (show (k : Int) % 16 ≠ 0 by omega)
        clear hlt hk h16
        go_wp2
        go_ret
        exact ⟨rfl, hb⟩

theorem pulseFewer.walk (r : Option Addr) (n cap : Nat) (z0 : List Int) (most : Int) (w : World) (h0 : IsRow .i64 w r n cap z0) (_w1 : (Lit.int .i64 most).wf = true) :
    Calls Try.prog 6 #[.slice r n cap, .int .i64 most] w fun e w' => e = .returned (.bool true) ∧ Below w.heap.size w w' := by
  by_cases h : n ≤ 480
  · exact pulseFewer.near r n cap _ most w (Zs.of_isRow h0).1 h
  · exact pulseFewer.far r n cap _ most w (Zs.of_isRow h0).1 (row_cap h0).2 (by omega)

end Go.Proofs.Ytdbgcbbfnjoebaa
