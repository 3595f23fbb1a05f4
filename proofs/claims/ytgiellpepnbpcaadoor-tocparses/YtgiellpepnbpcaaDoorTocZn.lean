/- What the document's own Parse comes to: some ways. (Laid by wip/mkrparse.py.) -/
import Derived.Test.YtgiellpepnbpcaaDoorTocZm
import Derived.Deep.RegionLaw
namespace Go.Proofs.YtgiellpepnbpcaaDoor
open Go.RowKit

set_option maxRecDepth 100000 in
set_option maxHeartbeats 2000000 in
theorem rparse_code0 (a : Option Addr) (n cap h : Nat) (r : List Nat) (w : World) (hb : Bs w a n cap (h :: r)) (kc d : Nat) (hkE : h / 8 = kc) (hdE : h / 4 % 2 = d) (hk : ¬ 11 < kc) (hm : h % 4 = 0) :
    Calls Tryd.prog 15 #[.slice a n cap] w fun e w' => RAns w.heap.size w' (h :: r) e ∧ Below w.heap.size w w' := by
  have HB : Hid (Bs w a n cap (h :: r)) := hb
  have hh : h < 256 := hb.row.small h (by simp)
  have b0 : (0 : Int) ≤ h := by omega
  have b1 : h ≤ 255 := by omega
  have h8 : (h : Int) / 8 = (kc : Nat) := by omega
  have h42 : (h : Int) / 4 % 2 = (d : Nat) := by omega
  have hA1 : bits .and .i64 ((h : Int) / 4) 1 = (d : Nat) := by rw [← hdE]; exact and_1 (h / 4)
  have hd1 : d ≤ 1 := by omega
  have hkc : kc ≤ 31 := by omega
  have hk11 : decide (11 < (kc : Int)) = false := decide_eq_false (by omega)
  have hA3 : bits .and .i64 (h : Int) 3 = 0 := by rw [and_3 h, hm]; rfl
  have h43 : (h : Int) % 4 = 0 := by omega
  obtain ⟨rb, HRB⟩ : ∃ rb, Hid (r.length = rb) := ⟨_, rfl⟩
  have HFR : Hid (framesN h r = some ([r.take rb], 0)) := by
    show _ = _
    rw [← HRB.out, List.take_length]
    exact if_pos hm
  have HPN : Hid (shortN [r.take rb] = false → parseN (h :: r) = none) := fun hs => parse_short_of (by omega) HFR.out hs
  have HPY : Hid (shortN [r.take rb] = true → parseN (h :: r) = some ⟨kc, 1 + d, [r.take rb], 0⟩) := fun hs => parse_some_of (by omega) hkE hdE HFR.out hs
  have HKL : Hid (rb ≤ r.length) := (by show _ ≤ _; rw [HRB.out]; exact Nat.le_refl _)
  have y2 : Hid True := trivial
  clear hb hh hkE hdE hk hm
  have y0 : Hid True := trivial
  go_enter Tryd.func15, Tryd.ntmps15
  go_wp2_with (first
    | (go_at_call 32; clear y0; go_loud (refine (one_yes (w.heap.size + 1) a n cap (h :: r) h r w _ (tak_start HB.out (((Below.refl _ _).alloc (Nat.le_refl _) _).alloc (by simp) _) (by omega) (by rw [← World.size_alloc]; exact heap_alloc_new _ _))).mono ?_; rintro e w1 ⟨rfl, ht1, ho1⟩; have hsz1 : w.heap.size + 2 ≤ w1.heap.size := (by have := ho1.size; simp at this; omega); have HRE : Hid (Four (w1.alloc (.cells #[.int .i64 (kc : Nat), .int .i64 (1 + (d : Nat)), .slice none 0 0, .int .i64 0] 39)) w.heap.size 39 (.int .i64 0) (.int .i64 0) (.slice none 0 0) (.int .i64 0)) := (ho1.four ((four_new w _ _ _ _ _).alloc _) (by omega)).alloc _; obtain ⟨z0, z1, z2, z3⟩ := HRE.out.cells; obtain ⟨g0, g1, g2, g3⟩ := four_frozen HRE.out; have hba : Below w1.heap.size w1 (w1.alloc (.cells #[.int .i64 (kc : Nat), .int .i64 (1 + (d : Nat)), .slice none 0 0, .int .i64 0] 39)) := (Below.refl _ _).alloc (Nat.le_refl _) _; have HME : Hid (Mpk w (w1.alloc (.cells #[.int .i64 (kc : Nat), .int .i64 (1 + (d : Nat)), .slice none 0 0, .int .i64 0] 39)) (w.heap.size + 1) w1.heap.size a n cap (h :: r) (kc : Nat) (1 + (d : Nat)) (w1.alloc (.cells #[.int .i64 (kc : Nat), .int .i64 (1 + (d : Nat)), .slice none 0 0, .int .i64 0] 39)) r (.slice none 0 0) 0 []) := ⟨ht1.keep hba, heap_alloc_new w1 _, Frs.nil _ _, by simp; omega, by simp, by omega, by omega, Nat.le_refl _, fun k _ _ _ => rfl⟩; have HZ : Hid (w.heap.size < ((w1.alloc (.cells #[.int .i64 (kc : Nat), .int .i64 (1 + (d : Nat)), .slice none 0 0, .int .i64 0] 39))).heap.size ∧ w.heap.size ≠ w.heap.size + 1 ∧ w.heap.size ≠ w1.heap.size ∧ w.heap.size ≤ ((w1.alloc (.cells #[.int .i64 (kc : Nat), .int .i64 (1 + (d : Nat)), .slice none 0 0, .int .i64 0] 39))).heap.size) := ⟨by simp; omega, by omega, by omega, by simp; omega⟩; obtain ⟨x0, x2, x3, e2, e3⟩ := HME.out.boxed; have x1 := HME.out.boxed1; obtain ⟨t1, f1, f0⟩ := HME.out.taker; obtain ⟨ra, rn, rc, hrn, hroom, hsz, htk, hsub, hbs, hgs, hqs⟩ := HME.out.know; obtain rfl : rn = rb := (by have := HRB.out; omega); have t0 := htk.cells.1; clear hrn hsub hbs htk; clear ht1 ho1 hba))
    | (go_at_call 33; clear y2; go_loud (refine (some_any (w.heap.size + 1) a n cap (h :: r) false r rn w _ HME.out.tak HKL.out).mono ?_; rintro e w3 ⟨⟨a8, c8, rfl, ho8⟩, ht8, hon8⟩; have HM3 : Hid (Mpk w (w1.alloc (.cells #[.int .i64 (kc : Nat), .int .i64 (1 + (d : Nat)), .slice none 0 0, .int .i64 0] 39)) (w.heap.size + 1) w1.heap.size a n cap (h :: r) (kc : Nat) (1 + (d : Nat)) w3 (r.drop rn) (.slice none 0 0) 0 []) := HME.out.took hon8 ht8; have HO8 : Hid (w3.ownsRow ((w1.alloc (.cells #[.int .i64 (kc : Nat), .int .i64 (1 + (d : Nat)), .slice none 0 0, .int .i64 0] 39))).heap.size 5 1 (.slice a8 rn c8) rn (bvals (r.take rn))) := (by have h9 : w3.ownsRow ((w1.alloc (.cells #[.int .i64 (kc : Nat), .int .i64 (1 + (d : Nat)), .slice none 0 0, .int .i64 0] 39))).heap.size 5 1 (.slice a8 rn c8) (r.take rn).length (bvals (r.take rn)) := ho8; rw [List.length_take_of_le HKL.out] at h9; exact h9); have hx3 := HM3.out.boxed.2.1; have hx3a := HM3.out.boxedA; have hx3f := HM3.out.frozenA; have HM5 : Hid (Mpk w (w1.alloc (.cells #[.int .i64 (kc : Nat), .int .i64 (1 + (d : Nat)), .slice none 0 0, .int .i64 0] 39)) (w.heap.size + 1) w1.heap.size a n cap (h :: r) (kc : Nat) (1 + (d : Nat)) ((w3.alloc (.cells #[.slice a8 rn c8] 29)).setCell ⟨w1.heap.size, 2, none⟩ (.slice (some ⟨w3.heap.size, 0, none⟩) 1 1)) (r.drop rn) (.slice (some ⟨w3.heap.size, 0, none⟩) 1 1) 0 [r.take rn]) := HM3.out.push ((Below.refl _ _).alloc HM3.out.size _) (frs_one (ownsRow_mono HO8.out HME.out.size) (List.length_take_of_le HKL.out) (fun y hy => HME.out.small y (List.mem_of_mem_take hy)) (by have := HKL.out; have := HME.out.few; omega) HM3.out.size); obtain ⟨v0, v2, v3, u2, u3⟩ := HM5.out.boxed; have v1 := HM5.out.boxed1; obtain ⟨s1, s2, s3⟩ := HM5.out.taker; clear ho8 ht8 hon8)))
  go_wp2
  go_loopw [9] (fun i W => ∃ j : Nat, j ≤ 1 ∧ i = .int .i64 j ∧ Hid (∃ r9 fa fcap, Mpk w (w1.alloc (.cells #[.int .i64 (kc : Nat), .int .i64 (1 + (d : Nat)), .slice none 0 0, .int .i64 0] 39)) (w.heap.size + 1) w1.heap.size a n cap (h :: r) (kc : Nat) (1 + (d : Nat)) W r9 (.slice fa 1 fcap) 0 [r.take rn] ∧ ∀ t, t < j → ([r.take rn][t]?.getD []).length ≤ 1275)) (fun i _ => 1 - (intOf i).toNat)
  case atStart => exact ⟨0, Nat.zero_le _, rfl, _, _, _, HM5.out, fun t ht => absurd ht (by omega)⟩
  case round =>
    obtain ⟨j, hj, rfl, HR⟩ := hrel
    obtain ⟨r9, fa, fcap, k1, k2⟩ := HR.out
    have HM9 : Hid (Mpk w (w1.alloc (.cells #[.int .i64 (kc : Nat), .int .i64 (1 + (d : Nat)), .slice none 0 0, .int .i64 0] 39)) (w.heap.size + 1) w1.heap.size a n cap (h :: r) (kc : Nat) (1 + (d : Nat)) wr r9 (.slice fa 1 fcap) 0 [r.take rn]) := k1
    have HLT : Hid (∀ t, t < j → ([r.take rn][t]?.getD []).length ≤ 1275) := k2
    obtain ⟨hnl, hfa, _, _⟩ := k1.fr.at_
    have HR9 := k1.four HRE.out HZ.out.2.1 HZ.out.2.2.1
    have HRF : Hid (Four wr w.heap.size 39 (.int .i64 0) (.int .i64 0) (.slice none 0 0) (.int .i64 0)) := HR9
    obtain ⟨z0, z1, z2, z3⟩ := HR9.cells
    obtain ⟨g0, g1, g2, g3⟩ := four_frozen HR9
    obtain ⟨x0, x2, x3, e2, e3⟩ := k1.boxed
    have x1 := k1.boxed1
    obtain ⟨t1, f1, f0⟩ := k1.taker
    have HNL : Hid (1 = [r.take rn].length) := hnl
    clear k1 k2 HR HR9
    by_cases hlt : j < 1
    · obtain ⟨b, off, fa', fcap', rfl, _, hc, _⟩ := hfa.elem (i := j) (by rw [← HNL.out]; exact hlt)
      have HS : Hid (1275 < ([r.take rn][j]?.getD []).length → shortN [r.take rn] = false) := fun hx => shortN_not (by rw [← HNL.out]; exact hlt) hx
      generalize hx : ([r.take rn][j]?.getD []).length = x at *
      have HX : Hid (([r.take rn][j]?.getD []).length = x) := hx
      clear hx hfa hnl
      by_cases hxs : 1275 < x
      · have HN : Hid (parseN (h :: r) = none) := HPN.out (HS.out hxs)
        go_wp2
        have HR9 := HM9.out.four HRE.out HZ.out.2.1 HZ.out.2.2.1
        refine rparse_ret (g := w.heap.size) (t := 39) (v0 := .int .i64 0) (v1 := .int .i64 0) (v2 := .slice none 0 0) (v3 := .int .i64 0) (x := .bool false) ?_ rfl rfl rfl ⟨.no HN.out, ?_⟩
        · with_reducible exact HR9.set _ _ _ _
        · with_reducible exact below_set4 HM9.out.below _ _ _ _
      · go_wp2
        go_roundw
        case rel => exact ⟨j + 1, by omega, by go_num, r9, _, fcap, HM9.out, fun t ht => (Nat.lt_or_ge t j).elim (HLT.out t) (fun ht2 => (by obtain rfl : t = j := (by omega); rw [HX.out]; omega))⟩
        case measure => simp [intOf]; omega
    · obtain rfl : j = 1 := by omega
      have HY : Hid (parseN (h :: r) = some ⟨kc, 1 + d, [r.take rn], 0⟩) := HPY.out (shortN_of (short_all HNL.out.symm HLT.out))
      clear hfa hnl
      go_wp2
      refine rparse_ret (g := w.heap.size) (t := 39) (v0 := .int .i64 (kc : Nat)) (v1 := .int .i64 (1 + (d : Nat))) (v2 := .slice fa 1 fcap) (v3 := .int .i64 0) (x := .bool true) ?_ rfl rfl rfl ⟨.yes HY.out (HM9.out.frs4 HZ.out.1 HZ.out.2.2.2 _ _ _ _) rfl (by simp) rfl, ?_⟩
      · with_reducible exact HRF.out.set _ _ _ _
      · with_reducible exact below_set4 HM9.out.below _ _ _ _

end Go.Proofs.YtgiellpepnbpcaaDoor
