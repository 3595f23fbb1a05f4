/- What package toc's Parse comes to: some ways. (Laid by wip/mkparse.py.) -/
import Derived.Test.YtgiellpepnbpcaaDoorTocI
namespace Go.Proofs.YtgiellpepnbpcaaDoor
open Go.RowKit

set_option maxHeartbeats 4000000 in
theorem parse_size (a : Option Addr) (n cap h : Nat) (r : List Nat) (w : World) (hb : Bs w a n cap (h :: r)) (hc : CfgAt w) (hk : h / 8 ≤ 11) (m : Nat) (t : Bool) (r1 : List Nat) (hh1 : headP (h % 4) r = some (m, t, false, r1)) (hm : 1 ≤ m) (hl : ¬ 120 < m * msN (h / 8)) (hz0 : sizes2 m t r1 = none) :
    Calls Tryd.prog 10 #[.slice a n cap] w fun e w' => ParseAns w.heap.size w' (h :: r) e ∧ Below w.heap.size w w' := by
  have HN : Hid (parseN (h :: r) = none) := by
    show _ = _; rw [← parse_eq]; unfold parseP; simp only; rw [if_neg (by omega), hh1]; simp only; rw [if_neg (by omega)]; simp only [Bool.false_eq_true, if_false]; unfold bodyP; rw [hz0]
  have hm60 : m ≤ 12 := by
    have h10 := (msN_in (h / 8)).1
    have := Nat.mul_le_mul_left m h10
    omega
  have HM : Hid (m ≤ 63 ∧ 1 ≤ m ∧ m ≤ 60) := ⟨by omega, hm, by omega⟩
  have HL : Hid (decide (120 < m * msN (h / 8)) = false) := decide_eq_false hl
  clear hl
  have HZ : Hid (sizes2 m t r1 = none) := hz0
  clear hz0
  have HB : Hid (Bs w a n cap (h :: r)) := hb
  have hn0 : 0 < n := by have := hb.len; simp at this; omega
  have hcap := hb.room
  obtain ⟨g, o, rfl, hg, hcell⟩ := hb.cell hn0
  have hh : h < 256 := hb.row.small h (by simp)
  have hz : ∀ o1, (w.alloc o1).cell? ⟨g, o, none⟩ = some (.int .u8 (h : Nat)) := fun o1 => (World.cell?_of_block (w := w) (Below.heap_alloc w o1 _ hg)).trans (hcell 0 hn0)
  have b0 : (0 : Int) ≤ h := by omega
  have b1 : h ≤ 255 := by omega
  have hn1 : (n == 0) = false := beq_eq_false_iff_ne.2 (by omega)
  obtain ⟨ar, nr, cr, hnr, hsr, hq1, hq2⟩ := hb.from_ 1 1 rfl (by omega)
  have hn2 : (1 : Int) ≤ n := by omega
  have HR : Hid (Sub _ n cap (h :: r) ar nr cr r) := hsr
  clear hcell hb hnr hsr hg
  have HK : Hid (h / 8 ≤ 11) := hk
  have HK2 : Hid ((h : Int) / 8 = ((h / 8 : Nat) : Int)) := rfl
  have HC : Hid (CfgAt w) := hc
  clear hk hc
  have HH : Hid (headP (h % 4) r = some (m, t, false, r1)) := hh1
  clear hh1
  go_enter Tryd.func10, Tryd.ntmps10
  go_wp2_with (first
    | (go_at_call 11; go_loud (rw [HK2.out]; refine (of_good (h / 8) (by have := HK.out; omega) _ (HC.out.keep (((Below.refl _ _).alloc (Nat.le_refl _) _).alloc (by simp) _))).mono ?_; rintro e w1 ⟨rfl, hb1⟩; have hB : Below w.heap.size w w1 := (((Below.refl _ _).alloc (Nat.le_refl _) _).alloc (by simp) _).trans (hb1.mono (by simp; omega)); obtain ⟨q1, q2⟩ := bcell hb1; have z1 : w.heap.size + 1 < w1.heap.size := (by have := hb1.size; simp at this; omega); have z2 : w.heap.size < w1.heap.size := (by omega); have hZ : Four w1 w.heap.size 25 (.int .i64 0) (.int .i64 0) (.slice none 0 0) (.int .i64 0) := (by have h0 := four_new w (.int .i64 0) (.int .i64 0) (.slice none 0 0) (.int .i64 0) 25; exact Four.keep (h0.alloc _) hb1)))
    | (go_at_call 22; go_loud (refine (headOf_any _ (h % 4) (by omega) (by omega) _ _ _ r _ (HR.out _ (HB.out.keep (hB.alloc (by omega) _)))).mono ?_; rintro e w2 ⟨he, hb2⟩; obtain ⟨a1, n1, c1, rfl, hs1⟩ := he.elim HH.out; have HS1 : Hid (Sub _ _ _ r a1 n1 c1 r1) := hs1; clear hs1; clear he; replace hB := (hB.alloc (by omega) _).trans (hb2.mono (by simp; omega)); obtain ⟨q3, q4⟩ := bcell hb2; have z3 : w1.heap.size < w2.heap.size := (by have := hb2.size; simp at this; omega); have z4 : w.heap.size + 1 < w2.heap.size := (by omega); have z5 : w.heap.size < w2.heap.size := (by omega); replace hZ := (hZ.alloc _).keep hb2))
    | (go_at_call 23; go_loud (refine (tooLong_any m (h / 8) _ _ _ (by have := HM.out.1; omega)).mono ?_; rw [HL.out]; rintro e w3 ⟨rfl, hb3⟩; replace hB := (hB.alloc (by omega) _).trans (hb3.mono (by simp; omega)); obtain ⟨q5, q6⟩ := bcell hb3; have z6 : w2.heap.size < w3.heap.size := (by have := hb3.size; simp at this; omega); have z7 : w.heap.size + 1 < w3.heap.size := (by omega); have z8 : w.heap.size < w3.heap.size := (by omega); have z9 : w1.heap.size < w3.heap.size := (by omega); replace hZ := (hZ.alloc _).keep hb3))
    | (go_at_call 25; go_loud (have hB5 := hB; have hZ5 := hZ; have hE5 : w3.heap.size = w3.heap.size := rfl; refine (sizesOf_any m t false _ _ _ r1 _ (HS1.out _ (HR.out _ (HB.out.keep hB5))) HM.out.2.1 HM.out.2.2).mono ?_; rintro e w5 ⟨he, hb5⟩; obtain ⟨a5, n5, c5, a6, n6, c6, rfl⟩ := he.elim_no HZ.out; clear he; replace hB := hB5.trans (hb5.mono hB5.size); replace hZ := hZ5.keep hb5; obtain ⟨q7, q8⟩ := bcell hb5; have z10 : w2.heap.size < w5.heap.size := (by have := hb5.size; omega); have z11 : w.heap.size + 1 < w5.heap.size := (by omega); have z12 : w.heap.size < w5.heap.size := (by omega); have z13 : w1.heap.size < w5.heap.size := (by omega); clear hE5 hB5 hZ5)))
  refine parse_ret (g := w.heap.size) (t := 25) (v0 := .int .i64 0) (v1 := .int .i64 0) (v2 := .slice none 0 0) (v3 := .int .i64 0) (x := .int .i64 3) ?_ rfl rfl rfl ⟨.no HN.out, ?_⟩
  · first
      | with_reducible exact hZ.set _ _ _ _
      | with_reducible exact (hZ.set _ _ _ _).alloc _
      | with_reducible exact (four_otherP hZ _ _).set _ _ _ _
  · first
      | with_reducible exact below_set4 hB _ _ _ _
      | with_reducible exact below_alloc (below_set4 hB _ _ _ _) _
      | with_reducible exact below_set4 (below_setP hB _ _) _ _ _ _

set_option maxHeartbeats 4000000 in
theorem parse_short (a : Option Addr) (n cap h : Nat) (r : List Nat) (w : World) (hb : Bs w a n cap (h :: r)) (hc : CfgAt w) (hk : h / 8 ≤ 11) (m : Nat) (t : Bool) (r1 : List Nat) (hh1 : headP (h % 4) r = some (m, t, false, r1)) (hm : 1 ≤ m) (hl : ¬ 120 < m * msN (h / 8)) (l r3 : List Nat) (hz0 : sizes2 m t r1 = some (l, r3)) (hsh : shortS l = false) :
    Calls Tryd.prog 10 #[.slice a n cap] w fun e w' => ParseAns w.heap.size w' (h :: r) e ∧ Below w.heap.size w w' := by
  have HN : Hid (parseN (h :: r) = none) := by
    show _ = _; rw [← parse_eq]; unfold parseP; simp only; rw [if_neg (by omega), hh1]; simp only; rw [if_neg (by omega)]; simp only [Bool.false_eq_true, if_false]; unfold bodyP; rw [hz0]; simp only; rw [hsh]; rfl
  have hm60 : m ≤ 12 := by
    have h10 := (msN_in (h / 8)).1
    have := Nat.mul_le_mul_left m h10
    omega
  have HM : Hid (m ≤ 63 ∧ 1 ≤ m ∧ m ≤ 60) := ⟨by omega, hm, by omega⟩
  have HL : Hid (decide (120 < m * msN (h / 8)) = false) := decide_eq_false hl
  clear hl
  have HZ : Hid (sizes2 m t r1 = some (l, r3)) := hz0
  have HSZ : Hid (sumN l ≤ r3.length ∧ l.length = m) := sizes2_is hm hz0
  have HSH : Hid (shortS l = false) := hsh
  clear hz0 hsh
  have HB : Hid (Bs w a n cap (h :: r)) := hb
  have hn0 : 0 < n := by have := hb.len; simp at this; omega
  have hcap := hb.room
  obtain ⟨g, o, rfl, hg, hcell⟩ := hb.cell hn0
  have hh : h < 256 := hb.row.small h (by simp)
  have hz : ∀ o1, (w.alloc o1).cell? ⟨g, o, none⟩ = some (.int .u8 (h : Nat)) := fun o1 => (World.cell?_of_block (w := w) (Below.heap_alloc w o1 _ hg)).trans (hcell 0 hn0)
  have b0 : (0 : Int) ≤ h := by omega
  have b1 : h ≤ 255 := by omega
  have hn1 : (n == 0) = false := beq_eq_false_iff_ne.2 (by omega)
  obtain ⟨ar, nr, cr, hnr, hsr, hq1, hq2⟩ := hb.from_ 1 1 rfl (by omega)
  have hn2 : (1 : Int) ≤ n := by omega
  have HR : Hid (Sub _ n cap (h :: r) ar nr cr r) := hsr
  clear hcell hb hnr hsr hg
  have HK : Hid (h / 8 ≤ 11) := hk
  have HK2 : Hid ((h : Int) / 8 = ((h / 8 : Nat) : Int)) := rfl
  have HC : Hid (CfgAt w) := hc
  clear hk hc
  have HH : Hid (headP (h % 4) r = some (m, t, false, r1)) := hh1
  clear hh1
  go_enter Tryd.func10, Tryd.ntmps10
  go_wp2_with (first
    | (go_at_call 11; go_loud (rw [HK2.out]; refine (of_good (h / 8) (by have := HK.out; omega) _ (HC.out.keep (((Below.refl _ _).alloc (Nat.le_refl _) _).alloc (by simp) _))).mono ?_; rintro e w1 ⟨rfl, hb1⟩; have hB : Below w.heap.size w w1 := (((Below.refl _ _).alloc (Nat.le_refl _) _).alloc (by simp) _).trans (hb1.mono (by simp; omega)); obtain ⟨q1, q2⟩ := bcell hb1; have z1 : w.heap.size + 1 < w1.heap.size := (by have := hb1.size; simp at this; omega); have z2 : w.heap.size < w1.heap.size := (by omega); have hZ : Four w1 w.heap.size 25 (.int .i64 0) (.int .i64 0) (.slice none 0 0) (.int .i64 0) := (by have h0 := four_new w (.int .i64 0) (.int .i64 0) (.slice none 0 0) (.int .i64 0) 25; exact Four.keep (h0.alloc _) hb1)))
    | (go_at_call 22; go_loud (refine (headOf_any _ (h % 4) (by omega) (by omega) _ _ _ r _ (HR.out _ (HB.out.keep (hB.alloc (by omega) _)))).mono ?_; rintro e w2 ⟨he, hb2⟩; obtain ⟨a1, n1, c1, rfl, hs1⟩ := he.elim HH.out; have HS1 : Hid (Sub _ _ _ r a1 n1 c1 r1) := hs1; clear hs1; clear he; replace hB := (hB.alloc (by omega) _).trans (hb2.mono (by simp; omega)); obtain ⟨q3, q4⟩ := bcell hb2; have z3 : w1.heap.size < w2.heap.size := (by have := hb2.size; simp at this; omega); have z4 : w.heap.size + 1 < w2.heap.size := (by omega); have z5 : w.heap.size < w2.heap.size := (by omega); replace hZ := (hZ.alloc _).keep hb2))
    | (go_at_call 23; go_loud (refine (tooLong_any m (h / 8) _ _ _ (by have := HM.out.1; omega)).mono ?_; rw [HL.out]; rintro e w3 ⟨rfl, hb3⟩; replace hB := (hB.alloc (by omega) _).trans (hb3.mono (by simp; omega)); obtain ⟨q5, q6⟩ := bcell hb3; have z6 : w2.heap.size < w3.heap.size := (by have := hb3.size; simp at this; omega); have z7 : w.heap.size + 1 < w3.heap.size := (by omega); have z8 : w.heap.size < w3.heap.size := (by omega); have z9 : w1.heap.size < w3.heap.size := (by omega); replace hZ := (hZ.alloc _).keep hb3))
    | (go_at_call 25; go_loud (have hB5 := hB; have hZ5 := hZ; have hE5 : w3.heap.size = w3.heap.size := rfl; refine (sizesOf_any m t false _ _ _ r1 _ (HS1.out _ (HR.out _ (HB.out.keep hB5))) HM.out.2.1 HM.out.2.2).mono ?_; rintro e w5 ⟨he, hb5⟩; obtain ⟨a5, n5, c5, a6, n6, c6, rfl, hoi, hn5, hs6⟩ := he.elim HZ.out; have HOI : Hid (NewRow 3 _ w5 a5 (ints l)) := oi_new hoi; have HS6 : Hid (Sub _ _ _ r1 a6 n6 c6 r3 ∧ n5 = l.length) := ⟨hs6, hn5⟩; clear hoi hs6 hn5; clear he; replace hB := hB5.trans (hb5.mono hB5.size); replace hZ := hZ5.keep hb5; obtain ⟨q7, q8⟩ := bcell hb5; have z10 : w2.heap.size < w5.heap.size := (by have := hb5.size; omega); have z11 : w.heap.size + 1 < w5.heap.size := (by omega); have z12 : w.heap.size < w5.heap.size := (by omega); have z13 : w1.heap.size < w5.heap.size := (by omega); clear hE5 hB5 hZ5))
    | (go_at_call 26; go_loud (have hb6' := (HS6.out.1 _ (HS1.out _ (HR.out _ (HB.out.keep hB)))); refine (cutFrames_any _ _ _ r3 l _ _ _ _ _ hb6' HOI.out HS6.out.2.symm (by have h1 := HS6.out.2; have h2 := HSZ.out.2; have h3 := HM.out.2.2; omega) (by have h1 := hb6'.len; have h2 := HSZ.out.1; omega)).mono ?_; rintro e w6 ⟨he, hb6⟩; obtain ⟨a7, n7, c7, rfl⟩ := he.2 HSH.out; clear he hb6'; obtain ⟨q9, q10⟩ := bcell hb6; have z14 : w5.heap.size ≤ w6.heap.size := hb6.size; have z15 : w.heap.size + 1 < w6.heap.size := (by omega); have z16 : w.heap.size < w6.heap.size := (by omega); have z17 := hB.size; replace hB := hB.trans (hb6.mono hB.size); replace hZ := hZ.keep hb6)))
  refine parse_ret (g := w.heap.size) (t := 25) (v0 := .int .i64 0) (v1 := .int .i64 0) (v2 := .slice none 0 0) (v3 := .int .i64 0) (x := .int .i64 3) ?_ rfl rfl rfl ⟨.no HN.out, ?_⟩
  · first
      | with_reducible exact hZ.set _ _ _ _
      | with_reducible exact (hZ.set _ _ _ _).alloc _
      | with_reducible exact (four_otherP hZ _ _).set _ _ _ _
  · first
      | with_reducible exact below_set4 hB _ _ _ _
      | with_reducible exact below_alloc (below_set4 hB _ _ _ _) _
      | with_reducible exact below_set4 (below_setP hB _ _) _ _ _ _

set_option maxHeartbeats 4000000 in
theorem parse_yes (a : Option Addr) (n cap h : Nat) (r : List Nat) (w : World) (hb : Bs w a n cap (h :: r)) (hc : CfgAt w) (hk : h / 8 ≤ 11) (m : Nat) (t : Bool) (r1 : List Nat) (hh1 : headP (h % 4) r = some (m, t, false, r1)) (hm : 1 ≤ m) (hl : ¬ 120 < m * msN (h / 8)) (l r3 : List Nat) (hz0 : sizes2 m t r1 = some (l, r3)) (hsh : shortS l = true) :
    Calls Tryd.prog 10 #[.slice a n cap] w fun e w' => ParseAns w.heap.size w' (h :: r) e ∧ Below w.heap.size w w' := by
  have HN : Hid (parseN (h :: r) = some { config := h / 8, ch := 1 + h / 4 % 2, frames := cutF l r3, pad := 0 }) := by
    show _ = _; rw [← parse_eq]; unfold parseP; simp only; rw [if_neg (by omega), hh1]; simp only; rw [if_neg (by omega)]; simp only [Bool.false_eq_true, if_false]; unfold bodyP; rw [hz0]; simp only; rw [hsh]; rfl
  have hm60 : m ≤ 12 := by
    have h10 := (msN_in (h / 8)).1
    have := Nat.mul_le_mul_left m h10
    omega
  have HM : Hid (m ≤ 63 ∧ 1 ≤ m ∧ m ≤ 60) := ⟨by omega, hm, by omega⟩
  have HL : Hid (decide (120 < m * msN (h / 8)) = false) := decide_eq_false hl
  clear hl
  have HZ : Hid (sizes2 m t r1 = some (l, r3)) := hz0
  have HSZ : Hid (sumN l ≤ r3.length ∧ l.length = m) := sizes2_is hm hz0
  have HSH : Hid (shortS l = true) := hsh
  clear hz0 hsh
  have HB : Hid (Bs w a n cap (h :: r)) := hb
  have hn0 : 0 < n := by have := hb.len; simp at this; omega
  have hcap := hb.room
  obtain ⟨g, o, rfl, hg, hcell⟩ := hb.cell hn0
  have hh : h < 256 := hb.row.small h (by simp)
  have hz : ∀ o1, (w.alloc o1).cell? ⟨g, o, none⟩ = some (.int .u8 (h : Nat)) := fun o1 => (World.cell?_of_block (w := w) (Below.heap_alloc w o1 _ hg)).trans (hcell 0 hn0)
  have b0 : (0 : Int) ≤ h := by omega
  have b1 : h ≤ 255 := by omega
  have hn1 : (n == 0) = false := beq_eq_false_iff_ne.2 (by omega)
  obtain ⟨ar, nr, cr, hnr, hsr, hq1, hq2⟩ := hb.from_ 1 1 rfl (by omega)
  have hn2 : (1 : Int) ≤ n := by omega
  have HR : Hid (Sub _ n cap (h :: r) ar nr cr r) := hsr
  clear hcell hb hnr hsr hg
  have HK : Hid (h / 8 ≤ 11) := hk
  have HK2 : Hid ((h : Int) / 8 = ((h / 8 : Nat) : Int)) := rfl
  have HC : Hid (CfgAt w) := hc
  clear hk hc
  have HH : Hid (headP (h % 4) r = some (m, t, false, r1)) := hh1
  clear hh1
  go_enter Tryd.func10, Tryd.ntmps10
  go_wp2_with (first
    | (go_at_call 11; go_loud (rw [HK2.out]; refine (of_good (h / 8) (by have := HK.out; omega) _ (HC.out.keep (((Below.refl _ _).alloc (Nat.le_refl _) _).alloc (by simp) _))).mono ?_; rintro e w1 ⟨rfl, hb1⟩; have hB : Below w.heap.size w w1 := (((Below.refl _ _).alloc (Nat.le_refl _) _).alloc (by simp) _).trans (hb1.mono (by simp; omega)); obtain ⟨q1, q2⟩ := bcell hb1; have z1 : w.heap.size + 1 < w1.heap.size := (by have := hb1.size; simp at this; omega); have z2 : w.heap.size < w1.heap.size := (by omega); have hZ : Four w1 w.heap.size 25 (.int .i64 0) (.int .i64 0) (.slice none 0 0) (.int .i64 0) := (by have h0 := four_new w (.int .i64 0) (.int .i64 0) (.slice none 0 0) (.int .i64 0) 25; exact Four.keep (h0.alloc _) hb1)))
    | (go_at_call 22; go_loud (refine (headOf_any _ (h % 4) (by omega) (by omega) _ _ _ r _ (HR.out _ (HB.out.keep (hB.alloc (by omega) _)))).mono ?_; rintro e w2 ⟨he, hb2⟩; obtain ⟨a1, n1, c1, rfl, hs1⟩ := he.elim HH.out; have HS1 : Hid (Sub _ _ _ r a1 n1 c1 r1) := hs1; clear hs1; clear he; replace hB := (hB.alloc (by omega) _).trans (hb2.mono (by simp; omega)); obtain ⟨q3, q4⟩ := bcell hb2; have z3 : w1.heap.size < w2.heap.size := (by have := hb2.size; simp at this; omega); have z4 : w.heap.size + 1 < w2.heap.size := (by omega); have z5 : w.heap.size < w2.heap.size := (by omega); replace hZ := (hZ.alloc _).keep hb2))
    | (go_at_call 23; go_loud (refine (tooLong_any m (h / 8) _ _ _ (by have := HM.out.1; omega)).mono ?_; rw [HL.out]; rintro e w3 ⟨rfl, hb3⟩; replace hB := (hB.alloc (by omega) _).trans (hb3.mono (by simp; omega)); obtain ⟨q5, q6⟩ := bcell hb3; have z6 : w2.heap.size < w3.heap.size := (by have := hb3.size; simp at this; omega); have z7 : w.heap.size + 1 < w3.heap.size := (by omega); have z8 : w.heap.size < w3.heap.size := (by omega); have z9 : w1.heap.size < w3.heap.size := (by omega); replace hZ := (hZ.alloc _).keep hb3))
    | (go_at_call 25; go_loud (have hB5 := hB; have hZ5 := hZ; have hE5 : w3.heap.size = w3.heap.size := rfl; refine (sizesOf_any m t false _ _ _ r1 _ (HS1.out _ (HR.out _ (HB.out.keep hB5))) HM.out.2.1 HM.out.2.2).mono ?_; rintro e w5 ⟨he, hb5⟩; obtain ⟨a5, n5, c5, a6, n6, c6, rfl, hoi, hn5, hs6⟩ := he.elim HZ.out; have HOI : Hid (NewRow 3 _ w5 a5 (ints l)) := oi_new hoi; have HS6 : Hid (Sub _ _ _ r1 a6 n6 c6 r3 ∧ n5 = l.length) := ⟨hs6, hn5⟩; clear hoi hs6 hn5; clear he; replace hB := hB5.trans (hb5.mono hB5.size); replace hZ := hZ5.keep hb5; obtain ⟨q7, q8⟩ := bcell hb5; have z10 : w2.heap.size < w5.heap.size := (by have := hb5.size; omega); have z11 : w.heap.size + 1 < w5.heap.size := (by omega); have z12 : w.heap.size < w5.heap.size := (by omega); have z13 : w1.heap.size < w5.heap.size := (by omega); clear hE5 hB5 hZ5))
    | (go_at_call 26; go_loud (have hb6' := (HS6.out.1 _ (HS1.out _ (HR.out _ (HB.out.keep hB)))); refine (cutFrames_any _ _ _ r3 l _ _ _ _ _ hb6' HOI.out HS6.out.2.symm (by have h1 := HS6.out.2; have h2 := HSZ.out.2; have h3 := HM.out.2.2; omega) (by have h1 := hb6'.len; have h2 := HSZ.out.1; omega)).mono ?_; rintro e w6 ⟨he, hb6⟩; obtain ⟨v7, rfl, hfr⟩ := he.1 HSH.out; have HFR : Hid (∃ B, w.heap.size + 1 < B ∧ Frs B w6 v7 (cutF l r3)) := ⟨_, z11, hfr⟩; obtain ⟨a7, c7, hv7⟩ := hfr.form; subst hv7; clear hfr; clear he hb6'; obtain ⟨q9, q10⟩ := bcell hb6; have z14 : w5.heap.size ≤ w6.heap.size := hb6.size; have z15 : w.heap.size + 1 < w6.heap.size := (by omega); have z16 : w.heap.size < w6.heap.size := (by omega); have z17 := hB.size; replace hB := hB.trans (hb6.mono hB.size); replace hZ := hZ.keep hb6)))
  refine parse_ret (g := w.heap.size) (t := 25) (v0 := .int .i64 ((h : Int) / 8)) (v1 := .int .i64 (1 + (h : Int) % 8 / 4)) (v2 := .slice a7 (cutF l r3).length c7) (v3 := .int .i64 0) (x := .int .i64 0) ?_ rfl rfl rfl ⟨.yes HN.out (frs_set4P HFR.out _ _ _ _ _ _) rfl (by simp only; omega) rfl, ?_⟩
  · first
      | with_reducible exact hZ.set _ _ _ _
      | with_reducible exact (four_otherP hZ _ _).set _ _ _ _
  · first
      | with_reducible exact below_set4 hB _ _ _ _
      | with_reducible exact below_set4 (below_setP hB _ _) _ _ _ _

end Go.Proofs.YtgiellpepnbpcaaDoor
