/- What the document's own Parse comes to: some ways. (Laid by wip/mkrparse.py.) -/
import Derived.Test.YtgiellpepnbpcaaDoorTocZm
import Derived.Test.YtgiellpepnbpcaaDoorTocZl
import Derived.Deep.RegionLaw
namespace Go.Proofs.YtgiellpepnbpcaaDoor
open Go.RowKit

set_option maxRecDepth 100000 in
set_option maxHeartbeats 2000000 in
theorem rparse_code3_no (a : Option Addr) (n cap h : Nat) (r : List Nat) (w : World) (hb : Bs w a n cap (h :: r)) (kc d : Nat) (hkE : h / 8 = kc) (hdE : h / 4 % 2 = d) (hk : ¬ 11 < kc) (hm : h % 4 = 3) (ht : manyN (msN kc) r = none) :
    Calls Tryd.prog 15 #[.slice a n cap] w fun e w' => RAns w.heap.size w' (h :: r) e ∧ Below w.heap.size w w' := by
  have HB : Hid (Bs w a n cap (h :: r)) := hb
  have hh : h < 256 := hb.row.small h (by simp)
  have b0 : (0 : Int) ≤ h := by omega
  have b1 : h ≤ 255 := by omega
  have h8 : (h : Int) / 8 = (kc : Nat) := by omega
  have h42 : (h : Int) / 4 % 2 = (d : Nat) := by omega
  have hA1 : bits .and .i64 ((h : Int) / 4) 1 = (d : Nat) := by rw [← hdE]; exact and_1 (h / 4)
  have hd1 : d ≤ 1 := by omega
  have hkc : kc ≤ 31 := by omega
  have hk11 : decide (11 < (kc : Int)) = false := decide_eq_false (by omega)
  have hA3 : bits .and .i64 (h : Int) 3 = 3 := by rw [and_3 h, hm]; rfl
  have h43 : (h : Int) % 4 = 3 := by omega
  have HFR : Hid (framesN h r = none) := by
    show _ = _
    unfold framesN
    rw [if_neg (by omega), if_neg (by omega), if_neg (by omega), hkE, ht]
  have HN : Hid (parseN (h :: r) = none) := parse_none_of (by omega) HFR.out
  have HT : Hid (manyN (msN kc) r = none) := ht
  have hk12 : kc ≤ 11 := by omega
  clear hb hh hkE hdE hk hm ht HFR
  have y0 : Hid True := trivial
  go_enter Tryd.func15, Tryd.ntmps15
  go_wp2_with (first
    | (go_at_call 32; clear y0; go_loud (refine (one_yes (w.heap.size + 1) a n cap (h :: r) h r w _ (tak_start HB.out (((Below.refl _ _).alloc (Nat.le_refl _) _).alloc (by simp) _) (by omega) (by rw [← World.size_alloc]; exact heap_alloc_new _ _))).mono ?_; rintro e w1 ⟨rfl, ht1, ho1⟩; have hsz1 : w.heap.size + 2 ≤ w1.heap.size := (by have := ho1.size; simp at this; omega); have HRE : Hid (Four (w1.alloc (.cells #[.int .i64 (kc : Nat), .int .i64 (1 + (d : Nat)), .slice none 0 0, .int .i64 0] 39)) w.heap.size 39 (.int .i64 0) (.int .i64 0) (.slice none 0 0) (.int .i64 0)) := (ho1.four ((four_new w _ _ _ _ _).alloc _) (by omega)).alloc _; obtain ⟨z0, z1, z2, z3⟩ := HRE.out.cells; obtain ⟨g0, g1, g2, g3⟩ := four_frozen HRE.out; have hba : Below w1.heap.size w1 (w1.alloc (.cells #[.int .i64 (kc : Nat), .int .i64 (1 + (d : Nat)), .slice none 0 0, .int .i64 0] 39)) := (Below.refl _ _).alloc (Nat.le_refl _) _; have HME : Hid (Mpk w (w1.alloc (.cells #[.int .i64 (kc : Nat), .int .i64 (1 + (d : Nat)), .slice none 0 0, .int .i64 0] 39)) (w.heap.size + 1) w1.heap.size a n cap (h :: r) (kc : Nat) (1 + (d : Nat)) (w1.alloc (.cells #[.int .i64 (kc : Nat), .int .i64 (1 + (d : Nat)), .slice none 0 0, .int .i64 0] 39)) r (.slice none 0 0) 0 []) := ⟨ht1.keep hba, heap_alloc_new w1 _, Frs.nil _ _, by simp; omega, by simp, by omega, by omega, Nat.le_refl _, fun k _ _ _ => rfl⟩; have HZ : Hid (w.heap.size < ((w1.alloc (.cells #[.int .i64 (kc : Nat), .int .i64 (1 + (d : Nat)), .slice none 0 0, .int .i64 0] 39))).heap.size ∧ w.heap.size ≠ w.heap.size + 1 ∧ w.heap.size ≠ w1.heap.size ∧ w.heap.size ≤ ((w1.alloc (.cells #[.int .i64 (kc : Nat), .int .i64 (1 + (d : Nat)), .slice none 0 0, .int .i64 0] 39))).heap.size) := ⟨by simp; omega, by omega, by omega, by simp; omega⟩; obtain ⟨x0, x2, x3, e2, e3⟩ := HME.out.boxed; have x1 := HME.out.boxed1; obtain ⟨t1, f1, f0⟩ := HME.out.taker; clear ht1 ho1 hba))
    | (go_at_call 35; go_loud (refine (many_any (w.heap.size + 1) w1.heap.size a n cap (h :: r) kc _ r w _ HME.out hk12).mono ?_; rintro e w3 ⟨rfl, hm3⟩; have HBD : Hid (Bd w (w1.alloc (.cells #[.int .i64 (kc : Nat), .int .i64 (1 + (d : Nat)), .slice none 0 0, .int .i64 0] 39)) (w.heap.size + 1) w1.heap.size a n cap (h :: r) w3) := hm3.elim_no HT.out; have HRB9 := HBD.out.four HRE.out HZ.out.2.1 HZ.out.2.2.1; clear z0 z1 z2 z3 g0 g1 g2 g3; obtain ⟨z0, z1, z2, z3⟩ := HRB9.cells; obtain ⟨g0, g1, g2, g3⟩ := four_frozen HRB9; obtain ⟨s1, s2⟩ := HBD.out.cells; clear HRB9;  clear hm3)))
  have HR9 := HBD.out.four HRE.out HZ.out.2.1 HZ.out.2.2.1
  refine rparse_ret (g := w.heap.size) (t := 39) (v0 := .int .i64 0) (v1 := .int .i64 0) (v2 := .slice none 0 0) (v3 := .int .i64 0) (x := .bool false) ?_ rfl rfl rfl ⟨.no HN.out, ?_⟩
  · with_reducible exact HR9.set _ _ _ _
  · with_reducible exact below_set4 HBD.out.below0 _ _ _ _

set_option maxRecDepth 100000 in
set_option maxHeartbeats 2000000 in
theorem rparse_code3 (a : Option Addr) (n cap h : Nat) (r : List Nat) (w : World) (hb : Bs w a n cap (h :: r)) (kc d : Nat) (hkE : h / 8 = kc) (hdE : h / 4 % 2 = d) (hk : ¬ 11 < kc) (hm : h % 4 = 3) (fs : List (List Nat)) (pn : Nat) (ht : manyN (msN kc) r = some (fs, pn)) :
    Calls Tryd.prog 15 #[.slice a n cap] w fun e w' => RAns w.heap.size w' (h :: r) e ∧ Below w.heap.size w w' := by
  have HB : Hid (Bs w a n cap (h :: r)) := hb
  have hh : h < 256 := hb.row.small h (by simp)
  have b0 : (0 : Int) ≤ h := by omega
  have b1 : h ≤ 255 := by omega
  have h8 : (h : Int) / 8 = (kc : Nat) := by omega
  have h42 : (h : Int) / 4 % 2 = (d : Nat) := by omega
  have hA1 : bits .and .i64 ((h : Int) / 4) 1 = (d : Nat) := by rw [← hdE]; exact and_1 (h / 4)
  have hd1 : d ≤ 1 := by omega
  have hkc : kc ≤ 31 := by omega
  have hk11 : decide (11 < (kc : Int)) = false := decide_eq_false (by omega)
  have hA3 : bits .and .i64 (h : Int) 3 = 3 := by rw [and_3 h, hm]; rfl
  have h43 : (h : Int) % 4 = 3 := by omega
  have HFR : Hid (framesN h r = some (fs, pn)) := by
    show _ = _
    unfold framesN
    rw [if_neg (by omega), if_neg (by omega), if_neg (by omega), hkE, ht]
  have HT : Hid (manyN (msN kc) r = some (fs, pn)) := ht
  have hk12 : kc ≤ 11 := by omega
  obtain ⟨nf, HNF⟩ : ∃ nf, Hid (fs.length = nf) := ⟨_, rfl⟩
  have hnf : nf ≤ 12 := by
    have h1 := (framesN_is (fun y hy => hb.row.small y (by simp [hy])) HFR.out).time
    have h2 := (msN_in (h / 8)).1
    have h3 : fs.length * 10 ≤ fs.length * msN (h / 8) := Nat.mul_le_mul_left _ h2
    have := HNF.out
    omega
  have HPN : Hid (shortN fs = false → parseN (h :: r) = none) := fun hs => parse_short_of (by omega) HFR.out hs
  have HPY : Hid (shortN fs = true → parseN (h :: r) = some ⟨kc, 1 + d, fs, pn⟩) := fun hs => parse_some_of (by omega) hkE hdE HFR.out hs
  clear hb hh hkE hdE hk hm ht HFR
  have y0 : Hid True := trivial
  go_enter Tryd.func15, Tryd.ntmps15
  go_wp2_with (first
    | (go_at_call 32; clear y0; go_loud (refine (one_yes (w.heap.size + 1) a n cap (h :: r) h r w _ (tak_start HB.out (((Below.refl _ _).alloc (Nat.le_refl _) _).alloc (by simp) _) (by omega) (by rw [← World.size_alloc]; exact heap_alloc_new _ _))).mono ?_; rintro e w1 ⟨rfl, ht1, ho1⟩; have hsz1 : w.heap.size + 2 ≤ w1.heap.size := (by have := ho1.size; simp at this; omega); have HRE : Hid (Four (w1.alloc (.cells #[.int .i64 (kc : Nat), .int .i64 (1 + (d : Nat)), .slice none 0 0, .int .i64 0] 39)) w.heap.size 39 (.int .i64 0) (.int .i64 0) (.slice none 0 0) (.int .i64 0)) := (ho1.four ((four_new w _ _ _ _ _).alloc _) (by omega)).alloc _; obtain ⟨z0, z1, z2, z3⟩ := HRE.out.cells; obtain ⟨g0, g1, g2, g3⟩ := four_frozen HRE.out; have hba : Below w1.heap.size w1 (w1.alloc (.cells #[.int .i64 (kc : Nat), .int .i64 (1 + (d : Nat)), .slice none 0 0, .int .i64 0] 39)) := (Below.refl _ _).alloc (Nat.le_refl _) _; have HME : Hid (Mpk w (w1.alloc (.cells #[.int .i64 (kc : Nat), .int .i64 (1 + (d : Nat)), .slice none 0 0, .int .i64 0] 39)) (w.heap.size + 1) w1.heap.size a n cap (h :: r) (kc : Nat) (1 + (d : Nat)) (w1.alloc (.cells #[.int .i64 (kc : Nat), .int .i64 (1 + (d : Nat)), .slice none 0 0, .int .i64 0] 39)) r (.slice none 0 0) 0 []) := ⟨ht1.keep hba, heap_alloc_new w1 _, Frs.nil _ _, by simp; omega, by simp, by omega, by omega, Nat.le_refl _, fun k _ _ _ => rfl⟩; have HZ : Hid (w.heap.size < ((w1.alloc (.cells #[.int .i64 (kc : Nat), .int .i64 (1 + (d : Nat)), .slice none 0 0, .int .i64 0] 39))).heap.size ∧ w.heap.size ≠ w.heap.size + 1 ∧ w.heap.size ≠ w1.heap.size ∧ w.heap.size ≤ ((w1.alloc (.cells #[.int .i64 (kc : Nat), .int .i64 (1 + (d : Nat)), .slice none 0 0, .int .i64 0] 39))).heap.size) := ⟨by simp; omega, by omega, by omega, by simp; omega⟩; obtain ⟨x0, x2, x3, e2, e3⟩ := HME.out.boxed; have x1 := HME.out.boxed1; obtain ⟨t1, f1, f0⟩ := HME.out.taker; clear ht1 ho1 hba))
    | (go_at_call 35; go_loud (refine (many_any (w.heap.size + 1) w1.heap.size a n cap (h :: r) kc _ r w _ HME.out hk12).mono ?_; rintro e w3 ⟨rfl, hm3⟩; obtain ⟨r7, v7, hm7⟩ := hm3.elim HT.out; obtain ⟨fa0, fc0, rfl⟩ := hm7.fr.form; rw [HNF.out] at hm7; have HM5 : Hid (Mpk w (w1.alloc (.cells #[.int .i64 (kc : Nat), .int .i64 (1 + (d : Nat)), .slice none 0 0, .int .i64 0] 39)) (w.heap.size + 1) w1.heap.size a n cap (h :: r) (kc : Nat) (1 + (d : Nat)) w3 r7 (.slice fa0 nf fc0) (pn : Nat) fs) := hm7; obtain ⟨v0, v2, v3, u2, u3⟩ := HM5.out.boxed; have v1 := HM5.out.boxed1; obtain ⟨s1, s2, s3⟩ := HM5.out.taker; clear hm7; clear hm3)))
  go_wp2
  go_loopw [9] (fun i W => ∃ j : Nat, j ≤ nf ∧ i = .int .i64 j ∧ Hid (∃ r9 fa fcap, Mpk w (w1.alloc (.cells #[.int .i64 (kc : Nat), .int .i64 (1 + (d : Nat)), .slice none 0 0, .int .i64 0] 39)) (w.heap.size + 1) w1.heap.size a n cap (h :: r) (kc : Nat) (1 + (d : Nat)) W r9 (.slice fa nf fcap) (pn : Nat) fs ∧ ∀ t, t < j → (fs[t]?.getD []).length ≤ 1275)) (fun i _ => nf - (intOf i).toNat)
  case atStart => exact ⟨0, Nat.zero_le _, rfl, _, _, _, HM5.out, fun t ht => absurd ht (by omega)⟩
  case round =>
    obtain ⟨j, hj, rfl, HR⟩ := hrel
    obtain ⟨r9, fa, fcap, k1, k2⟩ := HR.out
    have HM9 : Hid (Mpk w (w1.alloc (.cells #[.int .i64 (kc : Nat), .int .i64 (1 + (d : Nat)), .slice none 0 0, .int .i64 0] 39)) (w.heap.size + 1) w1.heap.size a n cap (h :: r) (kc : Nat) (1 + (d : Nat)) wr r9 (.slice fa nf fcap) (pn : Nat) fs) := k1
    have HLT : Hid (∀ t, t < j → (fs[t]?.getD []).length ≤ 1275) := k2
    obtain ⟨hnl, hfa, _, _⟩ := k1.fr.at_
    have HR9 := k1.four HRE.out HZ.out.2.1 HZ.out.2.2.1
    have HRF : Hid (Four wr w.heap.size 39 (.int .i64 0) (.int .i64 0) (.slice none 0 0) (.int .i64 0)) := HR9
    obtain ⟨z0, z1, z2, z3⟩ := HR9.cells
    obtain ⟨g0, g1, g2, g3⟩ := four_frozen HR9
    obtain ⟨x0, x2, x3, e2, e3⟩ := k1.boxed
    have x1 := k1.boxed1
    obtain ⟨t1, f1, f0⟩ := k1.taker
    have HNL : Hid (nf = fs.length) := hnl
    clear k1 k2 HR HR9
    by_cases hlt : j < nf
    · obtain ⟨b, off, fa', fcap', rfl, _, hc, _⟩ := hfa.elem (i := j) (by rw [← HNL.out]; exact hlt)
      have HS : Hid (1275 < (fs[j]?.getD []).length → shortN fs = false) := fun hx => shortN_not (by rw [← HNL.out]; exact hlt) hx
      generalize hx : (fs[j]?.getD []).length = x at *
      have HX : Hid ((fs[j]?.getD []).length = x) := hx
      clear hx hfa hnl
      by_cases hxs : 1275 < x
      · have HN : Hid (parseN (h :: r) = none) := HPN.out (HS.out hxs)
        go_wp2
        have HR9 := HM9.out.four HRE.out HZ.out.2.1 HZ.out.2.2.1
        refine rparse_ret (g := w.heap.size) (t := 39) (v0 := .int .i64 0) (v1 := .int .i64 0) (v2 := .slice none 0 0) (v3 := .int .i64 0) (x := .bool false) ?_ rfl rfl rfl ⟨.no HN.out, ?_⟩
        · with_reducible exact HR9.set _ _ _ _
        · with_reducible exact below_set4 HM9.out.below _ _ _ _
      · go_wp2
        go_roundw
        case rel => exact ⟨j + 1, by omega, by go_num, r9, _, fcap, HM9.out, fun t ht => (Nat.lt_or_ge t j).elim (HLT.out t) (fun ht2 => (by obtain rfl : t = j := (by omega); rw [HX.out]; omega))⟩
        case measure => simp [intOf]; omega
    · obtain rfl : j = nf := by omega
      have HY : Hid (parseN (h :: r) = some ⟨kc, 1 + d, fs, pn⟩) := HPY.out (shortN_of (short_all HNL.out.symm HLT.out))
      clear hfa hnl
      go_wp2
      refine rparse_ret (g := w.heap.size) (t := 39) (v0 := .int .i64 (kc : Nat)) (v1 := .int .i64 (1 + (d : Nat))) (v2 := .slice fa j fcap) (v3 := .int .i64 (pn : Nat)) (x := .bool true) ?_ rfl rfl rfl ⟨.yes HY.out (HM9.out.frs4 HZ.out.1 HZ.out.2.2.2 _ _ _ _) rfl (by simp) rfl, ?_⟩
      · with_reducible exact HRF.out.set _ _ _ _
      · with_reducible exact below_set4 HM9.out.below _ _ _ _

end Go.Proofs.YtgiellpepnbpcaaDoor
