/- What the document's own Parse comes to: some ways. (Laid by wip/mkrparse.py.) -/
import Derived.Test.YtgiellpepnbpcaaDoorTocZm
import Derived.Deep.RegionLaw
namespace Go.Proofs.YtgiellpepnbpcaaDoor
open Go.RowKit

set_option maxRecDepth 100000 in
set_option maxHeartbeats 2000000 in
theorem rparse_code2_no (a : Option Addr) (n cap h : Nat) (r : List Nat) (w : World) (hb : Bs w a n cap (h :: r)) (kc d : Nat) (hkE : h / 8 = kc) (hdE : h / 4 % 2 = d) (hk : ¬ 11 < kc) (hm : h % 4 = 2) (ht : takeLen r = none) :
    Calls Tryd.prog 15 #[.slice a n cap] w fun e w' => RAns w.heap.size w' (h :: r) e ∧ Below w.heap.size w w' := by
  have HB : Hid (Bs w a n cap (h :: r)) := hb
  have hh : h < 256 := hb.row.small h (by simp)
  have b0 : (0 : Int) ≤ h := by omega
  have b1 : h ≤ 255 := by omega
  have h8 : (h : Int) / 8 = (kc : Nat) := by omega
  have h42 : (h : Int) / 4 % 2 = (d : Nat) := by omega
  have hA1 : bits .and .i64 ((h : Int) / 4) 1 = (d : Nat) := by rw [← hdE]; exact and_1 (h / 4)
  have hd1 : d ≤ 1 := by omega
  have hkc : kc ≤ 31 := by omega
  have hk11 : decide (11 < (kc : Int)) = false := decide_eq_false (by omega)
  have hA3 : bits .and .i64 (h : Int) 3 = 2 := by rw [and_3 h, hm]; rfl
  have h43 : (h : Int) % 4 = 2 := by omega
  have HFR : Hid (framesN h r = none) := by
    show _ = _
    unfold framesN
    rw [if_neg (by omega), if_neg (by omega), if_pos hm, ht]
  have HN : Hid (parseN (h :: r) = none) := parse_none_of (by omega) HFR.out
  have HT : Hid (takeLen r = none) := ht
  clear hb hh hkE hdE hk hm ht HFR
  have y0 : Hid True := trivial
  go_enter Tryd.func15, Tryd.ntmps15
  go_wp2_with (first
    | (go_at_call 32; clear y0; go_loud (refine (one_yes (w.heap.size + 1) a n cap (h :: r) h r w _ (tak_start HB.out (((Below.refl _ _).alloc (Nat.le_refl _) _).alloc (by simp) _) (by omega) (by rw [← World.size_alloc]; exact heap_alloc_new _ _))).mono ?_; rintro e w1 ⟨rfl, ht1, ho1⟩; have hsz1 : w.heap.size + 2 ≤ w1.heap.size := (by have := ho1.size; simp at this; omega); have HRE : Hid (Four (w1.alloc (.cells #[.int .i64 (kc : Nat), .int .i64 (1 + (d : Nat)), .slice none 0 0, .int .i64 0] 39)) w.heap.size 39 (.int .i64 0) (.int .i64 0) (.slice none 0 0) (.int .i64 0)) := (ho1.four ((four_new w _ _ _ _ _).alloc _) (by omega)).alloc _; obtain ⟨z0, z1, z2, z3⟩ := HRE.out.cells; obtain ⟨g0, g1, g2, g3⟩ := four_frozen HRE.out; have hba : Below w1.heap.size w1 (w1.alloc (.cells #[.int .i64 (kc : Nat), .int .i64 (1 + (d : Nat)), .slice none 0 0, .int .i64 0] 39)) := (Below.refl _ _).alloc (Nat.le_refl _) _; have HME : Hid (Mpk w (w1.alloc (.cells #[.int .i64 (kc : Nat), .int .i64 (1 + (d : Nat)), .slice none 0 0, .int .i64 0] 39)) (w.heap.size + 1) w1.heap.size a n cap (h :: r) (kc : Nat) (1 + (d : Nat)) (w1.alloc (.cells #[.int .i64 (kc : Nat), .int .i64 (1 + (d : Nat)), .slice none 0 0, .int .i64 0] 39)) r (.slice none 0 0) 0 []) := ⟨ht1.keep hba, heap_alloc_new w1 _, Frs.nil _ _, by simp; omega, by simp, by omega, by omega, Nat.le_refl _, fun k _ _ _ => rfl⟩; have HZ : Hid (w.heap.size < ((w1.alloc (.cells #[.int .i64 (kc : Nat), .int .i64 (1 + (d : Nat)), .slice none 0 0, .int .i64 0] 39))).heap.size ∧ w.heap.size ≠ w.heap.size + 1 ∧ w.heap.size ≠ w1.heap.size ∧ w.heap.size ≤ ((w1.alloc (.cells #[.int .i64 (kc : Nat), .int .i64 (1 + (d : Nat)), .slice none 0 0, .int .i64 0] 39))).heap.size) := ⟨by simp; omega, by omega, by omega, by simp; omega⟩; obtain ⟨x0, x2, x3, e2, e3⟩ := HME.out.boxed; have x1 := HME.out.boxed1; obtain ⟨t1, f1, f0⟩ := HME.out.taker; clear ht1 ho1 hba))
    | (go_at_call 34; go_loud (refine (length_any (w.heap.size + 1) a n cap (h :: r) false r w _ HME.out.tak).mono ?_; rintro e w2 ⟨he, ho2⟩; obtain ⟨x, r4, rfl, ht2, hx⟩ := he.elim_no HT.out; have HBD : Hid (Bd w (w1.alloc (.cells #[.int .i64 (kc : Nat), .int .i64 (1 + (d : Nat)), .slice none 0 0, .int .i64 0] 39)) (w.heap.size + 1) w1.heap.size a n cap (h :: r) w2) := HME.out.bad ho2 ht2; have HRB9 := HBD.out.four HRE.out HZ.out.2.1 HZ.out.2.2.1; clear z0 z1 z2 z3 g0 g1 g2 g3; obtain ⟨z0, z1, z2, z3⟩ := HRB9.cells; obtain ⟨g0, g1, g2, g3⟩ := four_frozen HRB9; obtain ⟨s1, s2⟩ := HBD.out.cells; clear HRB9;  clear he ho2 ht2)))
  have HR9 := HBD.out.four HRE.out HZ.out.2.1 HZ.out.2.2.1
  refine rparse_ret (g := w.heap.size) (t := 39) (v0 := .int .i64 0) (v1 := .int .i64 0) (v2 := .slice none 0 0) (v3 := .int .i64 0) (x := .bool false) ?_ rfl rfl rfl ⟨.no HN.out, ?_⟩
  · with_reducible exact HR9.set _ _ _ _
  · with_reducible exact below_set4 HBD.out.below0 _ _ _ _

set_option maxRecDepth 100000 in
set_option maxHeartbeats 2000000 in
theorem rparse_code2 (a : Option Addr) (n cap h : Nat) (r : List Nat) (w : World) (hb : Bs w a n cap (h :: r)) (kc d : Nat) (hkE : h / 8 = kc) (hdE : h / 4 % 2 = d) (hk : ¬ 11 < kc) (hm : h % 4 = 2) (kn : Nat) (r2 : List Nat) (ht : takeLen r = some (kn, r2)) :
    Calls Tryd.prog 15 #[.slice a n cap] w fun e w' => RAns w.heap.size w' (h :: r) e ∧ Below w.heap.size w w' := by
  have HB : Hid (Bs w a n cap (h :: r)) := hb
  have hh : h < 256 := hb.row.small h (by simp)
  have b0 : (0 : Int) ≤ h := by omega
  have b1 : h ≤ 255 := by omega
  have h8 : (h : Int) / 8 = (kc : Nat) := by omega
  have h42 : (h : Int) / 4 % 2 = (d : Nat) := by omega
  have hA1 : bits .and .i64 ((h : Int) / 4) 1 = (d : Nat) := by rw [← hdE]; exact and_1 (h / 4)
  have hd1 : d ≤ 1 := by omega
  have hkc : kc ≤ 31 := by omega
  have hk11 : decide (11 < (kc : Int)) = false := decide_eq_false (by omega)
  have hA3 : bits .and .i64 (h : Int) 3 = 2 := by rw [and_3 h, hm]; rfl
  have h43 : (h : Int) % 4 = 2 := by omega
  obtain ⟨fx, HFX⟩ : ∃ fx, Hid ([r2.take kn, r2.drop kn] = fx) := ⟨_, rfl⟩
  have HFR : Hid (framesN h r = some (fx, 0)) := by
    show _ = _
    rw [← HFX.out]
    unfold framesN
    rw [if_neg (by omega), if_neg (by omega), if_pos hm, ht]
  have HT : Hid (takeLen r = some (kn, r2)) := ht
  have HKL : Hid (kn ≤ r2.length) := (takeLen_is ht).2.1
  have bk : kn ≤ 1275 := takeLen_small (fun y hy => hb.row.small y (by simp [hy])) ht
  have bk0 : (0 : Int) ≤ kn := by omega
  have HPN : Hid (shortN fx = false → parseN (h :: r) = none) := fun hs => parse_short_of (by omega) HFR.out hs
  have HPY : Hid (shortN fx = true → parseN (h :: r) = some ⟨kc, 1 + d, fx, 0⟩) := fun hs => parse_some_of (by omega) hkE hdE HFR.out hs
  have y2 : Hid True := trivial
  clear hb hh hkE hdE hk hm ht HFR
  have y0 : Hid True := trivial
  go_enter Tryd.func15, Tryd.ntmps15
  go_wp2_with (first
    | (go_at_call 32; clear y0; go_loud (refine (one_yes (w.heap.size + 1) a n cap (h :: r) h r w _ (tak_start HB.out (((Below.refl _ _).alloc (Nat.le_refl _) _).alloc (by simp) _) (by omega) (by rw [← World.size_alloc]; exact heap_alloc_new _ _))).mono ?_; rintro e w1 ⟨rfl, ht1, ho1⟩; have hsz1 : w.heap.size + 2 ≤ w1.heap.size := (by have := ho1.size; simp at this; omega); have HRE : Hid (Four (w1.alloc (.cells #[.int .i64 (kc : Nat), .int .i64 (1 + (d : Nat)), .slice none 0 0, .int .i64 0] 39)) w.heap.size 39 (.int .i64 0) (.int .i64 0) (.slice none 0 0) (.int .i64 0)) := (ho1.four ((four_new w _ _ _ _ _).alloc _) (by omega)).alloc _; obtain ⟨z0, z1, z2, z3⟩ := HRE.out.cells; obtain ⟨g0, g1, g2, g3⟩ := four_frozen HRE.out; have hba : Below w1.heap.size w1 (w1.alloc (.cells #[.int .i64 (kc : Nat), .int .i64 (1 + (d : Nat)), .slice none 0 0, .int .i64 0] 39)) := (Below.refl _ _).alloc (Nat.le_refl _) _; have HME : Hid (Mpk w (w1.alloc (.cells #[.int .i64 (kc : Nat), .int .i64 (1 + (d : Nat)), .slice none 0 0, .int .i64 0] 39)) (w.heap.size + 1) w1.heap.size a n cap (h :: r) (kc : Nat) (1 + (d : Nat)) (w1.alloc (.cells #[.int .i64 (kc : Nat), .int .i64 (1 + (d : Nat)), .slice none 0 0, .int .i64 0] 39)) r (.slice none 0 0) 0 []) := ⟨ht1.keep hba, heap_alloc_new w1 _, Frs.nil _ _, by simp; omega, by simp, by omega, by omega, Nat.le_refl _, fun k _ _ _ => rfl⟩; have HZ : Hid (w.heap.size < ((w1.alloc (.cells #[.int .i64 (kc : Nat), .int .i64 (1 + (d : Nat)), .slice none 0 0, .int .i64 0] 39))).heap.size ∧ w.heap.size ≠ w.heap.size + 1 ∧ w.heap.size ≠ w1.heap.size ∧ w.heap.size ≤ ((w1.alloc (.cells #[.int .i64 (kc : Nat), .int .i64 (1 + (d : Nat)), .slice none 0 0, .int .i64 0] 39))).heap.size) := ⟨by simp; omega, by omega, by omega, by simp; omega⟩; obtain ⟨x0, x2, x3, e2, e3⟩ := HME.out.boxed; have x1 := HME.out.boxed1; obtain ⟨t1, f1, f0⟩ := HME.out.taker; clear ht1 ho1 hba))
    | (go_at_call 34; go_loud (refine (length_any (w.heap.size + 1) a n cap (h :: r) false r w _ HME.out.tak).mono ?_; rintro e w2 ⟨he, ho2⟩; obtain ⟨rfl, ht2⟩ := he.elim HT.out; have HM2 : Hid (Mpk w (w1.alloc (.cells #[.int .i64 (kc : Nat), .int .i64 (1 + (d : Nat)), .slice none 0 0, .int .i64 0] 39)) (w.heap.size + 1) w1.heap.size a n cap (h :: r) (kc : Nat) (1 + (d : Nat)) w2 r2 (.slice none 0 0) 0 []) := HME.out.call ho2 ht2; obtain ⟨x0, x2, x3, e2, e3⟩ := HM2.out.boxed; have x1 := HM2.out.boxed1; obtain ⟨t1, f1, f0⟩ := HM2.out.taker; clear he ho2 ht2))
    | (go_at_call 33; clear y2; go_loud (refine (some_any (w.heap.size + 1) a n cap (h :: r) false r2 kn w _ HM2.out.tak HKL.out).mono ?_; rintro e w3 ⟨⟨a8, c8, rfl, ho8⟩, ht8, hon8⟩; have HM3 : Hid (Mpk w (w1.alloc (.cells #[.int .i64 (kc : Nat), .int .i64 (1 + (d : Nat)), .slice none 0 0, .int .i64 0] 39)) (w.heap.size + 1) w1.heap.size a n cap (h :: r) (kc : Nat) (1 + (d : Nat)) w3 (r2.drop kn) (.slice none 0 0) 0 []) := HM2.out.took hon8 ht8; have HO8 : Hid (w3.ownsRow (w2).heap.size 5 1 (.slice a8 kn c8) kn (bvals (r2.take kn))) := (by have h9 : w3.ownsRow (w2).heap.size 5 1 (.slice a8 kn c8) (r2.take kn).length (bvals (r2.take kn)) := ho8; rw [List.length_take_of_le HKL.out] at h9; exact h9); have hx3 := HM3.out.boxed.2.1; have hx3a := HM3.out.boxedA; have hx3f := HM3.out.frozenA; have HM5 : Hid (Mpk w (w1.alloc (.cells #[.int .i64 (kc : Nat), .int .i64 (1 + (d : Nat)), .slice none 0 0, .int .i64 0] 39)) (w.heap.size + 1) w1.heap.size a n cap (h :: r) (kc : Nat) (1 + (d : Nat)) ((w3.alloc (.cells #[.slice a8 kn c8] 29)).setCell ⟨w1.heap.size, 2, none⟩ (.slice (some ⟨w3.heap.size, 0, none⟩) 1 1)) (r2.drop kn) (.slice (some ⟨w3.heap.size, 0, none⟩) 1 1) 0 [r2.take kn]) := HM3.out.push ((Below.refl _ _).alloc HM3.out.size _) (frs_one (ownsRow_mono HO8.out HM2.out.size) (List.length_take_of_le HKL.out) (fun y hy => HM2.out.small y (List.mem_of_mem_take hy)) (by have := HKL.out; have := HM2.out.few; omega) HM3.out.size); obtain ⟨v0, v2, v3, u2, u3⟩ := HM5.out.boxed; have v1 := HM5.out.boxed1; obtain ⟨s1, s2, s3⟩ := HM5.out.taker; clear ho8 ht8 hon8)))
  generalize hwr : (w3.alloc (.cells #[.slice a8 kn c8] 29)).setCell ⟨w1.heap.size, 2, none⟩ (.slice (some ⟨w3.heap.size, 0, none⟩) 1 1) = wr at *
  obtain ⟨fs, HFS⟩ : ∃ fs, Hid ([r2.take kn] = fs) := ⟨_, rfl⟩
  have HNF : Hid (fs.length = 1) := by show _ = _; rw [← HFS.out]; rfl
  obtain ⟨v, HV⟩ : ∃ v : Value, Hid (Value.slice (some ⟨w3.heap.size, 0, none⟩) 1 1 = v) := ⟨_, rfl⟩
  have HMr : Hid (Mpk w (w1.alloc (.cells #[.int .i64 (kc : Nat), .int .i64 (1 + (d : Nat)), .slice none 0 0, .int .i64 0] 39)) (w.heap.size + 1) w1.heap.size a n cap (h :: r) (kc : Nat) (1 + (d : Nat)) wr (r2.drop kn) v 0 fs) := by rw [← HFS.out, ← HV.out]; exact HM5.out
  clear HM5 v0 v1 v2 v3 u2 u3 s1 s2 s3 hwr
  obtain ⟨v0, v2, v3, u2, u3⟩ := HMr.out.boxed
  have v1 := HMr.out.boxed1
  obtain ⟨s1, s2, s3⟩ := HMr.out.taker
  obtain ⟨ra, rn, rc, hrn, hroom, hsz, htk, hsub, hbs, hgs, hqs⟩ := HMr.out.know
  have t0 := htk.cells.1
  have HKL2 : Hid (rn ≤ (r2.drop kn).length) := (by show _ ≤ _; omega)
  have HT2 : Hid ((r2.drop kn).take rn = r2.drop kn) := List.take_of_length_le (by omega)
  clear hrn htk hsub hbs
  go_region_law (first
    | (go_simp; go_at_call 33; go_loud (refine (some_any (w.heap.size + 1) a n cap (h :: r) false (r2.drop kn) rn w _ HMr.out.drew.tak HKL2.out).mono ?_; rintro e w3 ⟨⟨a8, c8, rfl, ho8⟩, ht8, hon8⟩; have HM3 : Hid (Mpk w (w1.alloc (.cells #[.int .i64 (kc : Nat), .int .i64 (1 + (d : Nat)), .slice none 0 0, .int .i64 0] 39)) (w.heap.size + 1) w1.heap.size a n cap (h :: r) (kc : Nat) (1 + (d : Nat)) w3 (((r2.drop kn)).drop rn) v 0 fs) := HMr.out.drew.took hon8 ht8; have HO8 : Hid (w3.ownsRow wr.drew.heap.size 5 1 (.slice a8 rn c8) rn (bvals (((r2.drop kn)).take rn))) := (by have h9 : w3.ownsRow wr.drew.heap.size 5 1 (.slice a8 rn c8) (((r2.drop kn)).take rn).length (bvals (((r2.drop kn)).take rn)) := ho8; rw [List.length_take_of_le HKL2.out] at h9; exact h9); have hx3 := HM3.out.boxed.2.1; have hx3a := HM3.out.boxedA; clear ho8 ht8 hon8))
    | (refine step_push_frame ((w1.alloc (.cells #[.int .i64 (kc : Nat), .int .i64 (1 + (d : Nat)), .slice none 0 0, .int .i64 0] 39))).heap.size v fs a8 rn c8 (((r2.drop kn)).take rn) w3.heap.size (HM3.out.alloc _).fr (ob_cast ((ownsRow_mono HO8.out HMr.out.drew.size).alloc _) rfl (List.length_take_of_le HKL2.out).symm) (List.length_take_of_le HKL2.out) (fun k' hk' => HMr.out.drew.fresh HO8.out k' hk') (fun y hy => HMr.out.small y (List.mem_of_mem_take hy)) (by have := HKL2.out; have := HMr.out.few; omega) (by have := HNF.out; omega) (HM3.out.alloc _).size (heap_alloc_new w3 _) rfl (.tmp 88) (.tmp 96) (by rfl) (by rfl) (by rfl) ?_; intro g6 c6 w6 hF6 hb6 hg6; have hgb := (HM3.out.alloc (.cells #[.slice a8 rn c8] 29)).grownBox hb6; obtain ⟨hc6, hf6⟩ := hgb; have HMS6 : Hid (Mpk w (w1.alloc (.cells #[.int .i64 (kc : Nat), .int .i64 (1 + (d : Nat)), .slice none 0 0, .int .i64 0] 39)) (w.heap.size + 1) w1.heap.size a n cap (h :: r) (kc : Nat) (1 + (d : Nat)) (w6.setCell ⟨w1.heap.size, 2, none⟩ (.slice (some ⟨g6, 0, none⟩) (fs.length + 1) c6)) (((r2.drop kn)).drop rn) (.slice (some ⟨g6, 0, none⟩) (fs.length + 1) c6) 0 (fs ++ [((r2.drop kn)).take rn])) := (HM3.out.alloc (.cells #[.slice a8 rn c8] 29)).push hb6 hF6; clear hF6 hb6 hg6))
  all_goals
    have HM5 : Hid (∃ r9 fa fcap, Mpk w (w1.alloc (.cells #[.int .i64 (kc : Nat), .int .i64 (1 + (d : Nat)), .slice none 0 0, .int .i64 0] 39)) (w.heap.size + 1) w1.heap.size a n cap (h :: r) (kc : Nat) (1 + (d : Nat)) (w6.setCell ⟨w1.heap.size, 2, none⟩ (.slice (some ⟨g6, 0, none⟩) (fs.length + 1) c6)) r9 (.slice fa 2 fcap) 0 fx) := by
      have h9 := HMS6.out
      have h7 : fs ++ [((r2.drop kn)).take rn] = fx := by rw [← HFS.out, ← HFX.out, HT2.out]; rfl
      rw [h7, HNF.out] at h9
      show ∃ _, _
      rw [HNF.out]
      exact ⟨_, _, _, h9⟩
  all_goals
    obtain ⟨r8, fa8, fcap8, HM8⟩ := HM5.out
    obtain ⟨q0, q2, q3, p2, p3⟩ := HM8.boxed
    obtain ⟨q1, p1, p0⟩ := HM8.taker
    go_wp2
    go_loopw [9] (fun i W => ∃ j : Nat, j ≤ 2 ∧ i = .int .i64 j ∧ Hid (∃ r9 fa fcap, Mpk w (w1.alloc (.cells #[.int .i64 (kc : Nat), .int .i64 (1 + (d : Nat)), .slice none 0 0, .int .i64 0] 39)) (w.heap.size + 1) w1.heap.size a n cap (h :: r) (kc : Nat) (1 + (d : Nat)) W r9 (.slice fa 2 fcap) 0 fx ∧ ∀ t, t < j → (fx[t]?.getD []).length ≤ 1275)) (fun i _ => 2 - (intOf i).toNat)
    case atStart => exact ⟨0, Nat.zero_le _, rfl, _, _, _, HM8, fun t ht => absurd ht (by omega)⟩
    case round =>
      obtain ⟨j, hj, rfl, HR⟩ := hrel
      obtain ⟨r9, fa, fcap, k1, k2⟩ := HR.out
      have HM9 : Hid (Mpk w (w1.alloc (.cells #[.int .i64 (kc : Nat), .int .i64 (1 + (d : Nat)), .slice none 0 0, .int .i64 0] 39)) (w.heap.size + 1) w1.heap.size a n cap (h :: r) (kc : Nat) (1 + (d : Nat)) wr r9 (.slice fa 2 fcap) 0 fx) := k1
      have HLT : Hid (∀ t, t < j → (fx[t]?.getD []).length ≤ 1275) := k2
      obtain ⟨hnl, hfa, _, _⟩ := k1.fr.at_
      have HR9 := k1.four HRE.out HZ.out.2.1 HZ.out.2.2.1
      have HRF : Hid (Four wr w.heap.size 39 (.int .i64 0) (.int .i64 0) (.slice none 0 0) (.int .i64 0)) := HR9
      obtain ⟨z0, z1, z2, z3⟩ := HR9.cells
      obtain ⟨g0, g1, g2, g3⟩ := four_frozen HR9
      obtain ⟨x0, x2, x3, e2, e3⟩ := k1.boxed
      have x1 := k1.boxed1
      obtain ⟨t1, f1, f0⟩ := k1.taker
      have HNL : Hid (2 = fx.length) := hnl
      clear k1 k2 HR HR9
      by_cases hlt : j < 2
      · obtain ⟨b, off, fa', fcap', rfl, _, hc, _⟩ := hfa.elem (i := j) (by rw [← HNL.out]; exact hlt)
        have HS : Hid (1275 < (fx[j]?.getD []).length → shortN fx = false) := fun hx => shortN_not (by rw [← HNL.out]; exact hlt) hx
        generalize hx : (fx[j]?.getD []).length = x at *
        have HX : Hid ((fx[j]?.getD []).length = x) := hx
        clear hx hfa hnl
        by_cases hxs : 1275 < x
        · have HN : Hid (parseN (h :: r) = none) := HPN.out (HS.out hxs)
          go_wp2
          have HR9 := HM9.out.four HRE.out HZ.out.2.1 HZ.out.2.2.1
          refine rparse_ret (g := w.heap.size) (t := 39) (v0 := .int .i64 0) (v1 := .int .i64 0) (v2 := .slice none 0 0) (v3 := .int .i64 0) (x := .bool false) ?_ rfl rfl rfl ⟨.no HN.out, ?_⟩
          · with_reducible exact HR9.set _ _ _ _
          · with_reducible exact below_set4 HM9.out.below _ _ _ _
        · go_wp2
          go_roundw
          case rel => exact ⟨j + 1, by omega, by go_num, r9, _, fcap, HM9.out, fun t ht => (Nat.lt_or_ge t j).elim (HLT.out t) (fun ht2 => (by obtain rfl : t = j := (by omega); rw [HX.out]; omega))⟩
          case measure => simp [intOf]; omega
      · obtain rfl : j = 2 := by omega
        have HY : Hid (parseN (h :: r) = some ⟨kc, 1 + d, fx, 0⟩) := HPY.out (shortN_of (short_all HNL.out.symm HLT.out))
        clear hfa hnl
        go_wp2
        refine rparse_ret (g := w.heap.size) (t := 39) (v0 := .int .i64 (kc : Nat)) (v1 := .int .i64 (1 + (d : Nat))) (v2 := .slice fa 2 fcap) (v3 := .int .i64 0) (x := .bool true) ?_ rfl rfl rfl ⟨.yes HY.out (HM9.out.frs4 HZ.out.1 HZ.out.2.2.2 _ _ _ _) rfl (by simp) rfl, ?_⟩
        · with_reducible exact HRF.out.set _ _ _ _
        · with_reducible exact below_set4 HM9.out.below _ _ _ _

end Go.Proofs.YtgiellpepnbpcaaDoor
