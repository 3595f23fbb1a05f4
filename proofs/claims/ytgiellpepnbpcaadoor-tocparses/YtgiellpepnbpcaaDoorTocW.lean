/- What the document's own put and GoodPacket come to. -/
import Derived.Test.YtgiellpepnbpcaaDoorTocCfgs
namespace Go.Proofs.YtgiellpepnbpcaaDoor
open Go.RowKit

theorem rput_any (B : Nat) (v : Value) (bs : List Nat) (x : Nat) (w : World) (h : Ob B w v bs) (hx : x ≤ 1275) (hl : bs.length ≤ 1000000) (hB : B ≤ w.heap.size) :
    Calls Tryd.prog 36 #[v, .int .i64 (x : Nat)] w fun e w' => ∃ v', e = .returned v' ∧ Ob B w' v' (bs ++ putN x) ∧ Below B w w' := by
  obtain ⟨a0, c0, rfl⟩ := ownsRow_form h
  have HO : Hid (w.ownsRow B 5 1 (.slice a0 bs.length c0) bs.length (bvals bs)) := h
  clear h
  generalize hn : bs.length = n at *
  have HL : Hid (bs.length = n) := hn
  have HN : Hid (n ≤ 1000000) := hl
  clear hn hl
  have b0 : (0 : Int) ≤ x := by omega
  by_cases hlt : x ≤ 251
  · have HP : Hid (putN x = [x]) := if_pos (by omega)
    have b1 : ((x : Int) ≤ 251) = True := eq_true (by omega)
    have b3 : x ≤ 255 := by omega
    clear hx hlt
    go_enter Tryd.func36, Tryd.ntmps36
    go_wp2_with (at_builtin; go_loud (refine wpList_put_bytes B _ n bs [x] 1 _ ?_ rfl HO.out (by have := HN.out; omega) hB rfl _ _ rfl rfl _ rfl rfl ?_; (· simp [bvals]); intro a1 c1 w1 ho1 hb1))
    go_ret
    exact ⟨_, rfl, by rw [HP.out]; show World.ownsRow _ _ _ _ _ _ _; rw [List.length_append, HL.out]; exact ho1, hb1⟩
  · have HP : Hid (putN x = [252 + x % 4, (x - (252 + x % 4)) / 4]) := if_neg (by omega)
    have hm : 0 ≤ (x : Int) % 4 ∧ (x : Int) % 4 ≤ 3 := by omega
    have b1 : ((x : Int) ≤ 251) = False := eq_false (by omega)
    have HX : Hid (252 ≤ x ∧ x ≤ 1275) := by show _ ∧ _; omega
    have b5 : 0 ≤ (x : Int) - (252 + (x : Int) % 4) ∧ (x : Int) - (252 + (x : Int) % 4) ≤ 1023 := by omega
    have b6 : x ≤ 1275 := hx
    clear hx hlt
    go_enter Tryd.func36, Tryd.ntmps36
    go_wp2_with (at_builtin; go_loud (refine wpList_put_bytes B _ n bs [252 + x % 4, (x - (252 + x % 4)) / 4] 2 _ ?_ rfl HO.out (by have := HN.out; omega) hB rfl _ _ rfl rfl _ rfl rfl ?_; (· simp [bvals]; have := HX.out; omega); intro a1 c1 w1 ho1 hb1))
    go_ret
    exact ⟨_, rfl, by rw [HP.out]; show World.ownsRow _ _ _ _ _ _ _; rw [List.length_append, HL.out]; exact ho1, hb1⟩

theorem rms_int (c : Int) (h0 : 0 ≤ c) (h1 : c ≤ 11) (w : World) : Calls Tryd.prog 21 #[.int .i64 c] w fun e w' => e = .returned (.int .i64 (msN c.toNat : Nat)) ∧ w' = w := by
  obtain ⟨k, rfl⟩ := Int.eq_ofNat_of_zero_le h0
  exact rms_any k (by omega) w

set_option maxHeartbeats 4000000 in
theorem rgood_early (c ch pad : Int) (a : Option Addr) (n cap : Nat) (w : World)
    (h : c < 0 ∨ (¬ c < 0 ∧ 11 < c) ∨ (¬ c < 0 ∧ ¬ 11 < c ∧ ch < 1) ∨ (¬ c < 0 ∧ ¬ 11 < c ∧ ¬ ch < 1 ∧ 2 < ch) ∨ (¬ c < 0 ∧ ¬ 11 < c ∧ ¬ ch < 1 ∧ ¬ 2 < ch ∧ (n : Int) < 1) ∨ (¬ c < 0 ∧ ¬ 11 < c ∧ ¬ ch < 1 ∧ ¬ 2 < ch ∧ ¬ (n : Int) < 1 ∧ 12 < (n : Int))) :
    Calls Tryd.prog 17 #[.agg #[.int .i64 c, .int .i64 ch, .slice a n cap, .int .i64 pad]] w fun e w' => e = .returned (.bool false) ∧ Below w.heap.size w w' := by
  rcases h with h1 | ⟨h0, h1⟩ | ⟨h0, h1, h2⟩ | ⟨h0, h1, h2, h3⟩ | ⟨h0, h1, h2, h3, h4⟩ | ⟨h0, h1, h2, h3, h4, h5⟩
  case' inl => have d0 : decide (c < 0) = true := decide_eq_true h1
  case' inr.inl => have d0 : decide (c < 0) = false := decide_eq_false h0; have d1 : decide (11 < c) = true := decide_eq_true h1
  case' inr.inr.inl => have d0 : decide (c < 0) = false := decide_eq_false h0; have d1 : decide (11 < c) = false := decide_eq_false h1; have d2 : decide (ch < 1) = true := decide_eq_true h2
  case' inr.inr.inr.inl => have d0 : decide (c < 0) = false := decide_eq_false h0; have d1 : decide (11 < c) = false := decide_eq_false h1; have d2 : decide (ch < 1) = false := decide_eq_false h2; have d3 : decide (2 < ch) = true := decide_eq_true h3
  case' inr.inr.inr.inr.inl => have d0 : decide (c < 0) = false := decide_eq_false h0; have d1 : decide (11 < c) = false := decide_eq_false h1; have d2 : decide (ch < 1) = false := decide_eq_false h2; have d3 : decide (2 < ch) = false := decide_eq_false h3; have d4 : decide ((n : Int) < 1) = true := decide_eq_true h4
  case' inr.inr.inr.inr.inr => have d0 : decide (c < 0) = false := decide_eq_false h0; have d1 : decide (11 < c) = false := decide_eq_false h1; have d2 : decide (ch < 1) = false := decide_eq_false h2; have d3 : decide (2 < ch) = false := decide_eq_false h3; have d4 : decide ((n : Int) < 1) = false := decide_eq_false h4; have d5 : decide (12 < (n : Int)) = true := decide_eq_true h5
  all_goals
    go_enter Tryd.func17, Tryd.ntmps17
    go_wp2
    go_quiet (fail)
    go_wp2
    go_ret
    exact ⟨rfl, Below.drewN ((Below.refl _ _).alloc (Nat.le_refl _) _) _⟩

set_option maxHeartbeats 4000000 in
theorem rgood_late (c ch pad : Int) (a : Option Addr) (n cap : Nat) (w : World) (h0 : ¬ c < 0) (h1 : ¬ 11 < c) (h2 : ¬ ch < 1) (h3 : ¬ 2 < ch) (hn0 : 1 ≤ n) (hn1 : n ≤ 12)
    (h : 120 < n * msN c.toNat ∨ (¬ 120 < n * msN c.toNat ∧ pad < 0) ∨ (¬ 120 < n * msN c.toNat ∧ ¬ pad < 0 ∧ 1000 < pad)) :
    Calls Tryd.prog 17 #[.agg #[.int .i64 c, .int .i64 ch, .slice a n cap, .int .i64 pad]] w fun e w' => e = .returned (.bool false) ∧ Below w.heap.size w w' := by
  have HMS : Hid (∀ W : World, Calls Tryd.prog 21 #[.int .i64 c] W fun e w' => e = .returned (.int .i64 (msN c.toNat : Nat)) ∧ w' = W) := fun W => rms_int c (by omega) (by omega) W
  have hms := msN_in c.toNat
  have hp : n * msN c.toNat ≤ 240 := Nat.le_trans (Nat.mul_le_mul hn1 hms.2) (by decide)
  have d0 : decide (c < 0) = false := decide_eq_false h0
  have d1 : decide (11 < c) = false := decide_eq_false h1
  have d2 : decide (ch < 1) = false := decide_eq_false h2
  have d3 : decide (2 < ch) = false := decide_eq_false h3
  have d4 : decide ((n : Int) < 1) = false := decide_eq_false (by omega)
  have d5 : decide (12 < (n : Int)) = false := decide_eq_false (by omega)
  generalize msN c.toNat = s at *
  have HP : Hid ((n : Int) * (s : Int) = ((n * s : Nat) : Int)) := (Int.natCast_mul n s).symm
  have hp0 : 0 ≤ (n : Int) * (s : Int) ∧ (n : Int) * (s : Int) ≤ 240 := by rw [HP.out]; omega
  have hsN : s ≤ 20 := hms.2
  rcases h with h | ⟨h, h4⟩ | ⟨h, h4, h5⟩
  case' inl => have d6 : decide (120 < (n : Int) * (s : Int)) = true := decide_eq_true (by rw [HP.out]; omega)
  case' inr.inl => have d6 : decide (120 < (n : Int) * (s : Int)) = false := decide_eq_false (by rw [HP.out]; omega); have d7 : decide (pad < 0) = true := decide_eq_true h4
  case' inr.inr => have d6 : decide (120 < (n : Int) * (s : Int)) = false := decide_eq_false (by rw [HP.out]; omega); have d7 : decide (pad < 0) = false := decide_eq_false h4; have d8 : decide (1000 < pad) = true := decide_eq_true h5
  all_goals
    clear hp hms h
    go_enter Tryd.func17, Tryd.ntmps17
    go_wp2
    go_quiet (first | (go_at_call 21; exact Calls.quiet_of_same (HMS.out _)))
    go_wp2
    go_ret
    exact ⟨rfl, Below.drewN ((Below.refl _ _).alloc (Nat.le_refl _) _) _⟩

set_option maxHeartbeats 4000000 in
theorem rgood_frames (c ch pad : Int) (a : Option Addr) (n cap : Nat) (fs : List (List Nat)) (B : Nat) (w : World) (h0 : ¬ c < 0) (h1 : ¬ 11 < c) (h2 : ¬ ch < 1) (h3 : ¬ 2 < ch) (hn0 : 1 ≤ n) (hn1 : n ≤ 12) (h4 : ¬ pad < 0) (h5 : ¬ 1000 < pad)
    (h6 : ¬ 120 < n * msN c.toNat) (hF : FramesAt w B a fs) (hn : fs.length = n) :
    Calls Tryd.prog 17 #[.agg #[.int .i64 c, .int .i64 ch, .slice a n cap, .int .i64 pad]] w fun e w' => Says (goodI c ch pad fs) e ∧ Below w.heap.size w w' := by
  have HMS : Hid (∀ W : World, Calls Tryd.prog 21 #[.int .i64 c] W fun e w' => e = .returned (.int .i64 (msN c.toNat : Nat)) ∧ w' = W) := fun W => rms_int c (by omega) (by omega) W
  have HF : Hid (FramesAt w B a fs) := hF
  have HL : Hid (fs.length = n) := hn
  have HG : Hid ((∀ j, j < n → (fs[j]?.getD []).length ≤ 1275) → goodI c ch pad fs) := fun h => ⟨by omega, by omega, by omega, by omega, by omega, by omega, by omega, by rw [hn]; omega, short_all hn h⟩
  have hms := msN_in c.toNat
  have hp : n * msN c.toNat ≤ 240 := Nat.le_trans (Nat.mul_le_mul hn1 hms.2) (by decide)
  have d0 : decide (c < 0) = false := decide_eq_false h0
  have d1 : decide (11 < c) = false := decide_eq_false h1
  have d2 : decide (ch < 1) = false := decide_eq_false h2
  have d3 : decide (2 < ch) = false := decide_eq_false h3
  have d4 : decide ((n : Int) < 1) = false := decide_eq_false (by omega)
  have d5 : decide (12 < (n : Int)) = false := decide_eq_false (by omega)
  have d7 : decide (pad < 0) = false := decide_eq_false h4
  have d8 : decide (1000 < pad) = false := decide_eq_false h5
  generalize msN c.toNat = s at *
  have HP : Hid ((n : Int) * (s : Int) = ((n * s : Nat) : Int)) := (Int.natCast_mul n s).symm
  have hp0 : 0 ≤ (n : Int) * (s : Int) ∧ (n : Int) * (s : Int) ≤ 240 := by rw [HP.out]; omega
  have d6 : decide (120 < (n : Int) * (s : Int)) = false := decide_eq_false (by rw [HP.out]; omega)
  have hsN : s ≤ 20 := hms.2
  clear hF hn hp hms h6
  go_enter Tryd.func17, Tryd.ntmps17
  go_wp2
  go_quiet (first | (go_at_call 21; exact Calls.quiet_of_same (HMS.out _)))
  go_wp2
  go_loopw [3] (fun i W => ∃ m : Nat, m ≤ n ∧ i = .int .i64 m ∧ Hid (Below w.heap.size w W ∧ Four W w.heap.size 39 (.int .i64 c) (.int .i64 ch) (.slice a n cap) (.int .i64 pad) ∧ ∀ j, j < m → (fs[j]?.getD []).length ≤ 1275)) (fun i _ => n - (intOf i).toNat)
  case atStart => exact ⟨0, Nat.zero_le _, rfl, Below.drewN ((Below.refl _ _).alloc (Nat.le_refl _) _) _, (four_new w _ _ _ _ _).drewN _, fun j hj => absurd hj (by omega)⟩
  case round =>
    obtain ⟨m, hm, rfl, HR⟩ := hrel
    obtain ⟨p0, p1, p2, p3⟩ := HR.out.2.1.cells
    by_cases hlt : m < n
    · obtain ⟨b, off, fa, fcap, rfl, _, hc, _⟩ := (HF.out.keep HR.out.1).elem (i := m) (by rw [HL.out]; exact hlt)
      have HS : Hid (1275 < (fs[m]?.getD []).length → ¬ goodI c ch pad fs) := fun h g => short_not (by rw [HL.out]; exact hlt) h g.short
      generalize hx : (fs[m]?.getD []).length = x at *
      have HX : Hid ((fs[m]?.getD []).length = x) := hx
      clear hx
      by_cases hxs : 1275 < x
      · have HNO : Hid (¬ goodI c ch pad fs) := HS.out hxs
        go_wp2
        go_ret
        exact ⟨.no HNO.out, HR.out.1⟩
      · go_wp2
        go_roundw
        case rel => exact ⟨m + 1, by omega, by go_num, HR.out.1, HR.out.2.1, fun j hj => (Nat.lt_or_ge j m).elim (HR.out.2.2 j) (fun hj2 => (by obtain rfl : j = m := (by omega); rw [HX.out]; omega))⟩
        case measure => simp [intOf]; omega
    · obtain rfl : m = n := by omega
      go_wp2
      go_ret
      exact ⟨.yes (HG.out HR.out.2.2), HR.out.1⟩

theorem rgood_any (c ch pad : Int) (a : Option Addr) (n cap : Nat) (fs : List (List Nat)) (B : Nat) (w : World) (hF : FramesAt w B a fs) (hn : fs.length = n) (hs : n ≤ 9223372036854775807) :
    Calls Tryd.prog 17 #[.agg #[.int .i64 c, .int .i64 ch, .slice a n cap, .int .i64 pad]] w fun e w' => Says (goodI c ch pad fs) e ∧ Below w.heap.size w w' := by
  by_cases he : c < 0 ∨ (¬ c < 0 ∧ 11 < c) ∨ (¬ c < 0 ∧ ¬ 11 < c ∧ ch < 1) ∨ (¬ c < 0 ∧ ¬ 11 < c ∧ ¬ ch < 1 ∧ 2 < ch) ∨ (¬ c < 0 ∧ ¬ 11 < c ∧ ¬ ch < 1 ∧ ¬ 2 < ch ∧ (n : Int) < 1) ∨ (¬ c < 0 ∧ ¬ 11 < c ∧ ¬ ch < 1 ∧ ¬ 2 < ch ∧ ¬ (n : Int) < 1 ∧ 12 < (n : Int))
  · refine (rgood_early c ch pad a n cap w he).mono ?_
    rintro e w' ⟨rfl, hb⟩
    refine ⟨.no fun g => ?_, hb⟩
    have h1 := g.c0; have h2 := g.c1; have h3 := g.ch0; have h4 := g.ch1; have h5 := g.some_; have h6 := g.time; have h7 := (msN_in c.toNat).1
    have h8 : fs.length * 10 ≤ fs.length * msN c.toNat := Nat.mul_le_mul_left _ h7
    omega
  · by_cases hl : 120 < n * msN c.toNat ∨ (¬ 120 < n * msN c.toNat ∧ pad < 0) ∨ (¬ 120 < n * msN c.toNat ∧ ¬ pad < 0 ∧ 1000 < pad)
    · refine (rgood_late c ch pad a n cap w (by omega) (by omega) (by omega) (by omega) (by omega) (by omega) hl).mono ?_
      rintro e w' ⟨rfl, hb⟩
      refine ⟨.no fun g => ?_, hb⟩
      have h1 := g.pad0; have h2 := g.pad1; have h6 := g.time
      rw [hn] at h6
      omega
    · exact rgood_frames c ch pad a n cap fs B w (by omega) (by omega) (by omega) (by omega) (by omega) (by omega) (by omega) (by omega) (by omega) hF hn

end Go.Proofs.YtgiellpepnbpcaaDoor
