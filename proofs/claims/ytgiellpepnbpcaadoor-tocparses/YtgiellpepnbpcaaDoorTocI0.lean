/- What package toc's Parse comes to: some ways. (Laid by wip/mkparse.py.) -/
import Derived.Test.YtgiellpepnbpcaaDoorTocI
namespace Go.Proofs.YtgiellpepnbpcaaDoor
open Go.RowKit

set_option maxHeartbeats 4000000 in
theorem parse_config (a : Option Addr) (n cap h : Nat) (r : List Nat) (w : World) (hb : Bs w a n cap (h :: r)) (hk : 11 < h / 8) :
    Calls Tryd.prog 10 #[.slice a n cap] w fun e w' => ParseAns w.heap.size w' (h :: r) e ∧ Below w.heap.size w w' := by
  have HN : Hid (parseN (h :: r) = none) := by show _ = _; rw [← parse_eq]; exact if_pos hk
  have HB : Hid (Bs w a n cap (h :: r)) := hb
  have hn0 : 0 < n := by have := hb.len; simp at this; omega
  have hcap := hb.room
  obtain ⟨g, o, rfl, hg, hcell⟩ := hb.cell hn0
  have hh : h < 256 := hb.row.small h (by simp)
  have hz : ∀ o1, (w.alloc o1).cell? ⟨g, o, none⟩ = some (.int .u8 (h : Nat)) := fun o1 => (World.cell?_of_block (w := w) (Below.heap_alloc w o1 _ hg)).trans (hcell 0 hn0)
  have b0 : (0 : Int) ≤ h := by omega
  have b1 : h ≤ 255 := by omega
  have hn1 : (n == 0) = false := beq_eq_false_iff_ne.2 (by omega)
  obtain ⟨ar, nr, cr, hnr, hsr, hq1, hq2⟩ := hb.from_ 1 1 rfl (by omega)
  have hn2 : (1 : Int) ≤ n := by omega
  have HR : Hid (Sub _ n cap (h :: r) ar nr cr r) := hsr
  clear hcell hb hnr hsr hg
  have HK : Hid (11 < h / 8) := hk
  clear hk
  go_enter Tryd.func10, Tryd.ntmps10
  go_wp2_with (first
    | (go_at_call 11; go_loud (refine (of_bad ((h : Int) / 8) (by have := HK.out; omega) _).mono ?_; rintro e w1 ⟨rfl, hb1⟩; have hB : Below w.heap.size w w1 := (((Below.refl _ _).alloc (Nat.le_refl _) _).alloc (by simp) _).trans (hb1.mono (by simp; omega)); obtain ⟨q1, q2⟩ := bcell hb1; have z1 : w.heap.size + 1 < w1.heap.size := (by have := hb1.size; simp at this; omega); have z2 : w.heap.size < w1.heap.size := (by omega); have hZ : Four w1 w.heap.size 25 (.int .i64 0) (.int .i64 0) (.slice none 0 0) (.int .i64 0) := (by have h0 := four_new w (.int .i64 0) (.int .i64 0) (.slice none 0 0) (.int .i64 0) 25; exact Four.keep (h0.alloc _) hb1))))
  refine parse_ret (g := w.heap.size) (t := 25) (v0 := .int .i64 0) (v1 := .int .i64 0) (v2 := .slice none 0 0) (v3 := .int .i64 0) (x := .int .i64 3) ?_ rfl rfl rfl ⟨.no HN.out, ?_⟩
  · first
      | with_reducible exact hZ.set _ _ _ _
      | with_reducible exact (hZ.set _ _ _ _).alloc _
      | with_reducible exact (four_otherP hZ _ _).set _ _ _ _
  · first
      | with_reducible exact below_set4 hB _ _ _ _
      | with_reducible exact below_alloc (below_set4 hB _ _ _ _) _
      | with_reducible exact below_set4 (below_setP hB _ _) _ _ _ _

set_option maxHeartbeats 4000000 in
theorem parse_head (a : Option Addr) (n cap h : Nat) (r : List Nat) (w : World) (hb : Bs w a n cap (h :: r)) (hc : CfgAt w) (hk : h / 8 ≤ 11) (hh0 : headP (h % 4) r = none) :
    Calls Tryd.prog 10 #[.slice a n cap] w fun e w' => ParseAns w.heap.size w' (h :: r) e ∧ Below w.heap.size w w' := by
  have HN : Hid (parseN (h :: r) = none) := by
    show _ = _; rw [← parse_eq]; unfold parseP; simp only; rw [if_neg (by omega), hh0]
  have HB : Hid (Bs w a n cap (h :: r)) := hb
  have hn0 : 0 < n := by have := hb.len; simp at this; omega
  have hcap := hb.room
  obtain ⟨g, o, rfl, hg, hcell⟩ := hb.cell hn0
  have hh : h < 256 := hb.row.small h (by simp)
  have hz : ∀ o1, (w.alloc o1).cell? ⟨g, o, none⟩ = some (.int .u8 (h : Nat)) := fun o1 => (World.cell?_of_block (w := w) (Below.heap_alloc w o1 _ hg)).trans (hcell 0 hn0)
  have b0 : (0 : Int) ≤ h := by omega
  have b1 : h ≤ 255 := by omega
  have hn1 : (n == 0) = false := beq_eq_false_iff_ne.2 (by omega)
  obtain ⟨ar, nr, cr, hnr, hsr, hq1, hq2⟩ := hb.from_ 1 1 rfl (by omega)
  have hn2 : (1 : Int) ≤ n := by omega
  have HR : Hid (Sub _ n cap (h :: r) ar nr cr r) := hsr
  clear hcell hb hnr hsr hg
  have HK : Hid (h / 8 ≤ 11) := hk
  have HK2 : Hid ((h : Int) / 8 = ((h / 8 : Nat) : Int)) := rfl
  have HC : Hid (CfgAt w) := hc
  clear hk hc
  have HH : Hid (headP (h % 4) r = none) := hh0
  clear hh0
  go_enter Tryd.func10, Tryd.ntmps10
  go_wp2_with (first
    | (go_at_call 11; go_loud (rw [HK2.out]; refine (of_good (h / 8) (by have := HK.out; omega) _ (HC.out.keep (((Below.refl _ _).alloc (Nat.le_refl _) _).alloc (by simp) _))).mono ?_; rintro e w1 ⟨rfl, hb1⟩; have hB : Below w.heap.size w w1 := (((Below.refl _ _).alloc (Nat.le_refl _) _).alloc (by simp) _).trans (hb1.mono (by simp; omega)); obtain ⟨q1, q2⟩ := bcell hb1; have z1 : w.heap.size + 1 < w1.heap.size := (by have := hb1.size; simp at this; omega); have z2 : w.heap.size < w1.heap.size := (by omega); have hZ : Four w1 w.heap.size 25 (.int .i64 0) (.int .i64 0) (.slice none 0 0) (.int .i64 0) := (by have h0 := four_new w (.int .i64 0) (.int .i64 0) (.slice none 0 0) (.int .i64 0) 25; exact Four.keep (h0.alloc _) hb1)))
    | (go_at_call 22; go_loud (refine (headOf_any _ (h % 4) (by omega) (by omega) _ _ _ r _ (HR.out _ (HB.out.keep (hB.alloc (by omega) _)))).mono ?_; rintro e w2 ⟨he, hb2⟩; obtain rfl := he.elim_no HH.out; clear he; replace hB := (hB.alloc (by omega) _).trans (hb2.mono (by simp; omega)); obtain ⟨q3, q4⟩ := bcell hb2; have z3 : w1.heap.size < w2.heap.size := (by have := hb2.size; simp at this; omega); have z4 : w.heap.size + 1 < w2.heap.size := (by omega); have z5 : w.heap.size < w2.heap.size := (by omega); replace hZ := (hZ.alloc _).keep hb2)))
  refine parse_ret (g := w.heap.size) (t := 25) (v0 := .int .i64 0) (v1 := .int .i64 0) (v2 := .slice none 0 0) (v3 := .int .i64 0) (x := .int .i64 3) ?_ rfl rfl rfl ⟨.no HN.out, ?_⟩
  · first
      | with_reducible exact hZ.set _ _ _ _
      | with_reducible exact (hZ.set _ _ _ _).alloc _
      | with_reducible exact (four_otherP hZ _ _).set _ _ _ _
  · first
      | with_reducible exact below_set4 hB _ _ _ _
      | with_reducible exact below_alloc (below_set4 hB _ _ _ _) _
      | with_reducible exact below_set4 (below_setP hB _ _) _ _ _ _

set_option maxHeartbeats 4000000 in
theorem parse_none (a : Option Addr) (n cap h : Nat) (r : List Nat) (w : World) (hb : Bs w a n cap (h :: r)) (hc : CfgAt w) (hk : h / 8 ≤ 11) (m : Nat) (t pd : Bool) (r1 : List Nat) (hh1 : headP (h % 4) r = some (m, t, pd, r1)) (hm : m = 0) :
    Calls Tryd.prog 10 #[.slice a n cap] w fun e w' => ParseAns w.heap.size w' (h :: r) e ∧ Below w.heap.size w w' := by
  have HN : Hid (parseN (h :: r) = none) := by
    show _ = _; rw [← parse_eq]; unfold parseP; simp only; rw [if_neg (by omega), hh1]; simp only; rw [if_pos (by omega)]
  subst hm
  have HB : Hid (Bs w a n cap (h :: r)) := hb
  have hn0 : 0 < n := by have := hb.len; simp at this; omega
  have hcap := hb.room
  obtain ⟨g, o, rfl, hg, hcell⟩ := hb.cell hn0
  have hh : h < 256 := hb.row.small h (by simp)
  have hz : ∀ o1, (w.alloc o1).cell? ⟨g, o, none⟩ = some (.int .u8 (h : Nat)) := fun o1 => (World.cell?_of_block (w := w) (Below.heap_alloc w o1 _ hg)).trans (hcell 0 hn0)
  have b0 : (0 : Int) ≤ h := by omega
  have b1 : h ≤ 255 := by omega
  have hn1 : (n == 0) = false := beq_eq_false_iff_ne.2 (by omega)
  obtain ⟨ar, nr, cr, hnr, hsr, hq1, hq2⟩ := hb.from_ 1 1 rfl (by omega)
  have hn2 : (1 : Int) ≤ n := by omega
  have HR : Hid (Sub _ n cap (h :: r) ar nr cr r) := hsr
  clear hcell hb hnr hsr hg
  have HK : Hid (h / 8 ≤ 11) := hk
  have HK2 : Hid ((h : Int) / 8 = ((h / 8 : Nat) : Int)) := rfl
  have HC : Hid (CfgAt w) := hc
  clear hk hc
  have HH : Hid (headP (h % 4) r = some (0, t, pd, r1)) := hh1
  clear hh1
  go_enter Tryd.func10, Tryd.ntmps10
  go_wp2_with (first
    | (go_at_call 11; go_loud (rw [HK2.out]; refine (of_good (h / 8) (by have := HK.out; omega) _ (HC.out.keep (((Below.refl _ _).alloc (Nat.le_refl _) _).alloc (by simp) _))).mono ?_; rintro e w1 ⟨rfl, hb1⟩; have hB : Below w.heap.size w w1 := (((Below.refl _ _).alloc (Nat.le_refl _) _).alloc (by simp) _).trans (hb1.mono (by simp; omega)); obtain ⟨q1, q2⟩ := bcell hb1; have z1 : w.heap.size + 1 < w1.heap.size := (by have := hb1.size; simp at this; omega); have z2 : w.heap.size < w1.heap.size := (by omega); have hZ : Four w1 w.heap.size 25 (.int .i64 0) (.int .i64 0) (.slice none 0 0) (.int .i64 0) := (by have h0 := four_new w (.int .i64 0) (.int .i64 0) (.slice none 0 0) (.int .i64 0) 25; exact Four.keep (h0.alloc _) hb1)))
    | (go_at_call 22; go_loud (refine (headOf_any _ (h % 4) (by omega) (by omega) _ _ _ r _ (HR.out _ (HB.out.keep (hB.alloc (by omega) _)))).mono ?_; rintro e w2 ⟨he, hb2⟩; obtain ⟨a1, n1, c1, rfl, hs1⟩ := he.elim HH.out; have HS1 : Hid (Sub _ _ _ r a1 n1 c1 r1) := hs1; clear hs1; clear he; replace hB := (hB.alloc (by omega) _).trans (hb2.mono (by simp; omega)); obtain ⟨q3, q4⟩ := bcell hb2; have z3 : w1.heap.size < w2.heap.size := (by have := hb2.size; simp at this; omega); have z4 : w.heap.size + 1 < w2.heap.size := (by omega); have z5 : w.heap.size < w2.heap.size := (by omega); replace hZ := (hZ.alloc _).keep hb2)))
  refine parse_ret (g := w.heap.size) (t := 25) (v0 := .int .i64 0) (v1 := .int .i64 0) (v2 := .slice none 0 0) (v3 := .int .i64 0) (x := .int .i64 3) ?_ rfl rfl rfl ⟨.no HN.out, ?_⟩
  · first
      | with_reducible exact hZ.set _ _ _ _
      | with_reducible exact (hZ.set _ _ _ _).alloc _
      | with_reducible exact (four_otherP hZ _ _).set _ _ _ _
  · first
      | with_reducible exact below_set4 hB _ _ _ _
      | with_reducible exact below_alloc (below_set4 hB _ _ _ _) _
      | with_reducible exact below_set4 (below_setP hB _ _) _ _ _ _

set_option maxHeartbeats 4000000 in
theorem parse_long (a : Option Addr) (n cap h : Nat) (r : List Nat) (w : World) (hb : Bs w a n cap (h :: r)) (hc : CfgAt w) (hk : h / 8 ≤ 11) (m : Nat) (t pd : Bool) (r1 : List Nat) (hh1 : headP (h % 4) r = some (m, t, pd, r1)) (hm : 1 ≤ m) (hl : 120 < m * msN (h / 8)) :
    Calls Tryd.prog 10 #[.slice a n cap] w fun e w' => ParseAns w.heap.size w' (h :: r) e ∧ Below w.heap.size w w' := by
  have HN : Hid (parseN (h :: r) = none) := by
    show _ = _; rw [← parse_eq]; unfold parseP; simp only; rw [if_neg (by omega), hh1]; simp only; rw [if_pos (by omega)]
  have HM : Hid (m ≤ 63) := headP_le hh1
  have HL : Hid (decide (120 < m * msN (h / 8)) = true) := decide_eq_true hl
  clear hl
  have hm63 : m ≤ 63 := HM.out
  have HB : Hid (Bs w a n cap (h :: r)) := hb
  have hn0 : 0 < n := by have := hb.len; simp at this; omega
  have hcap := hb.room
  obtain ⟨g, o, rfl, hg, hcell⟩ := hb.cell hn0
  have hh : h < 256 := hb.row.small h (by simp)
  have hz : ∀ o1, (w.alloc o1).cell? ⟨g, o, none⟩ = some (.int .u8 (h : Nat)) := fun o1 => (World.cell?_of_block (w := w) (Below.heap_alloc w o1 _ hg)).trans (hcell 0 hn0)
  have b0 : (0 : Int) ≤ h := by omega
  have b1 : h ≤ 255 := by omega
  have hn1 : (n == 0) = false := beq_eq_false_iff_ne.2 (by omega)
  obtain ⟨ar, nr, cr, hnr, hsr, hq1, hq2⟩ := hb.from_ 1 1 rfl (by omega)
  have hn2 : (1 : Int) ≤ n := by omega
  have HR : Hid (Sub _ n cap (h :: r) ar nr cr r) := hsr
  clear hcell hb hnr hsr hg
  have HK : Hid (h / 8 ≤ 11) := hk
  have HK2 : Hid ((h : Int) / 8 = ((h / 8 : Nat) : Int)) := rfl
  have HC : Hid (CfgAt w) := hc
  clear hk hc
  have HH : Hid (headP (h % 4) r = some (m, t, pd, r1)) := hh1
  clear hh1
  go_enter Tryd.func10, Tryd.ntmps10
  go_wp2_with (first
    | (go_at_call 11; go_loud (rw [HK2.out]; refine (of_good (h / 8) (by have := HK.out; omega) _ (HC.out.keep (((Below.refl _ _).alloc (Nat.le_refl _) _).alloc (by simp) _))).mono ?_; rintro e w1 ⟨rfl, hb1⟩; have hB : Below w.heap.size w w1 := (((Below.refl _ _).alloc (Nat.le_refl _) _).alloc (by simp) _).trans (hb1.mono (by simp; omega)); obtain ⟨q1, q2⟩ := bcell hb1; have z1 : w.heap.size + 1 < w1.heap.size := (by have := hb1.size; simp at this; omega); have z2 : w.heap.size < w1.heap.size := (by omega); have hZ : Four w1 w.heap.size 25 (.int .i64 0) (.int .i64 0) (.slice none 0 0) (.int .i64 0) := (by have h0 := four_new w (.int .i64 0) (.int .i64 0) (.slice none 0 0) (.int .i64 0) 25; exact Four.keep (h0.alloc _) hb1)))
    | (go_at_call 22; go_loud (refine (headOf_any _ (h % 4) (by omega) (by omega) _ _ _ r _ (HR.out _ (HB.out.keep (hB.alloc (by omega) _)))).mono ?_; rintro e w2 ⟨he, hb2⟩; obtain ⟨a1, n1, c1, rfl, hs1⟩ := he.elim HH.out; have HS1 : Hid (Sub _ _ _ r a1 n1 c1 r1) := hs1; clear hs1; clear he; replace hB := (hB.alloc (by omega) _).trans (hb2.mono (by simp; omega)); obtain ⟨q3, q4⟩ := bcell hb2; have z3 : w1.heap.size < w2.heap.size := (by have := hb2.size; simp at this; omega); have z4 : w.heap.size + 1 < w2.heap.size := (by omega); have z5 : w.heap.size < w2.heap.size := (by omega); replace hZ := (hZ.alloc _).keep hb2))
    | (go_at_call 23; go_loud (refine (tooLong_any m (h / 8) _ _ _ (by have := HM.out; omega)).mono ?_; rw [HL.out]; rintro e w3 ⟨rfl, hb3⟩; replace hB := (hB.alloc (by omega) _).trans (hb3.mono (by simp; omega)); obtain ⟨q5, q6⟩ := bcell hb3; have z6 : w2.heap.size < w3.heap.size := (by have := hb3.size; simp at this; omega); have z7 : w.heap.size + 1 < w3.heap.size := (by omega); have z8 : w.heap.size < w3.heap.size := (by omega); have z9 : w1.heap.size < w3.heap.size := (by omega); replace hZ := (hZ.alloc _).keep hb3)))
  refine parse_ret (g := w.heap.size) (t := 25) (v0 := .int .i64 0) (v1 := .int .i64 0) (v2 := .slice none 0 0) (v3 := .int .i64 0) (x := .int .i64 3) ?_ rfl rfl rfl ⟨.no HN.out, ?_⟩
  · first
      | with_reducible exact hZ.set _ _ _ _
      | with_reducible exact (hZ.set _ _ _ _).alloc _
      | with_reducible exact (four_otherP hZ _ _).set _ _ _ _
  · first
      | with_reducible exact below_set4 hB _ _ _ _
      | with_reducible exact below_alloc (below_set4 hB _ _ _ _) _
      | with_reducible exact below_set4 (below_setP hB _ _) _ _ _ _

set_option maxHeartbeats 4000000 in
theorem parse_pad (a : Option Addr) (n cap h : Nat) (r : List Nat) (w : World) (hb : Bs w a n cap (h :: r)) (hc : CfgAt w) (hk : h / 8 ≤ 11) (m : Nat) (t : Bool) (r1 : List Nat) (hh1 : headP (h % 4) r = some (m, t, true, r1)) (hm : 1 ≤ m) (hl : ¬ 120 < m * msN (h / 8)) (hp : padP r1 = none) :
    Calls Tryd.prog 10 #[.slice a n cap] w fun e w' => ParseAns w.heap.size w' (h :: r) e ∧ Below w.heap.size w w' := by
  have HN : Hid (parseN (h :: r) = none) := by
    show _ = _; rw [← parse_eq]; unfold parseP; simp only; rw [if_neg (by omega), hh1]; simp only; rw [if_neg (by omega)]; simp only [if_true]; rw [hp]
  have hm60 : m ≤ 12 := by
    have h10 := (msN_in (h / 8)).1
    have := Nat.mul_le_mul_left m h10
    omega
  have HM : Hid (m ≤ 63 ∧ 1 ≤ m ∧ m ≤ 60) := ⟨by omega, hm, by omega⟩
  have HL : Hid (decide (120 < m * msN (h / 8)) = false) := decide_eq_false hl
  clear hl
  have HP : Hid (padP r1 = none) := hp
  clear hp
  have HB : Hid (Bs w a n cap (h :: r)) := hb
  have hn0 : 0 < n := by have := hb.len; simp at this; omega
  have hcap := hb.room
  obtain ⟨g, o, rfl, hg, hcell⟩ := hb.cell hn0
  have hh : h < 256 := hb.row.small h (by simp)
  have hz : ∀ o1, (w.alloc o1).cell? ⟨g, o, none⟩ = some (.int .u8 (h : Nat)) := fun o1 => (World.cell?_of_block (w := w) (Below.heap_alloc w o1 _ hg)).trans (hcell 0 hn0)
  have b0 : (0 : Int) ≤ h := by omega
  have b1 : h ≤ 255 := by omega
  have hn1 : (n == 0) = false := beq_eq_false_iff_ne.2 (by omega)
  obtain ⟨ar, nr, cr, hnr, hsr, hq1, hq2⟩ := hb.from_ 1 1 rfl (by omega)
  have hn2 : (1 : Int) ≤ n := by omega
  have HR : Hid (Sub _ n cap (h :: r) ar nr cr r) := hsr
  clear hcell hb hnr hsr hg
  have HK : Hid (h / 8 ≤ 11) := hk
  have HK2 : Hid ((h : Int) / 8 = ((h / 8 : Nat) : Int)) := rfl
  have HC : Hid (CfgAt w) := hc
  clear hk hc
  have HH : Hid (headP (h % 4) r = some (m, t, true, r1)) := hh1
  clear hh1
  go_enter Tryd.func10, Tryd.ntmps10
  go_wp2_with (first
    | (go_at_call 11; go_loud (rw [HK2.out]; refine (of_good (h / 8) (by have := HK.out; omega) _ (HC.out.keep (((Below.refl _ _).alloc (Nat.le_refl _) _).alloc (by simp) _))).mono ?_; rintro e w1 ⟨rfl, hb1⟩; have hB : Below w.heap.size w w1 := (((Below.refl _ _).alloc (Nat.le_refl _) _).alloc (by simp) _).trans (hb1.mono (by simp; omega)); obtain ⟨q1, q2⟩ := bcell hb1; have z1 : w.heap.size + 1 < w1.heap.size := (by have := hb1.size; simp at this; omega); have z2 : w.heap.size < w1.heap.size := (by omega); have hZ : Four w1 w.heap.size 25 (.int .i64 0) (.int .i64 0) (.slice none 0 0) (.int .i64 0) := (by have h0 := four_new w (.int .i64 0) (.int .i64 0) (.slice none 0 0) (.int .i64 0) 25; exact Four.keep (h0.alloc _) hb1)))
    | (go_at_call 22; go_loud (refine (headOf_any _ (h % 4) (by omega) (by omega) _ _ _ r _ (HR.out _ (HB.out.keep (hB.alloc (by omega) _)))).mono ?_; rintro e w2 ⟨he, hb2⟩; obtain ⟨a1, n1, c1, rfl, hs1⟩ := he.elim HH.out; have HS1 : Hid (Sub _ _ _ r a1 n1 c1 r1) := hs1; clear hs1; clear he; replace hB := (hB.alloc (by omega) _).trans (hb2.mono (by simp; omega)); obtain ⟨q3, q4⟩ := bcell hb2; have z3 : w1.heap.size < w2.heap.size := (by have := hb2.size; simp at this; omega); have z4 : w.heap.size + 1 < w2.heap.size := (by omega); have z5 : w.heap.size < w2.heap.size := (by omega); replace hZ := (hZ.alloc _).keep hb2))
    | (go_at_call 23; go_loud (refine (tooLong_any m (h / 8) _ _ _ (by have := HM.out.1; omega)).mono ?_; rw [HL.out]; rintro e w3 ⟨rfl, hb3⟩; replace hB := (hB.alloc (by omega) _).trans (hb3.mono (by simp; omega)); obtain ⟨q5, q6⟩ := bcell hb3; have z6 : w2.heap.size < w3.heap.size := (by have := hb3.size; simp at this; omega); have z7 : w.heap.size + 1 < w3.heap.size := (by omega); have z8 : w.heap.size < w3.heap.size := (by omega); have z9 : w1.heap.size < w3.heap.size := (by omega); replace hZ := (hZ.alloc _).keep hb3))
    | (go_at_call 24; go_loud (refine (cutPad_any _ _ _ r1 _ (HS1.out _ (HR.out _ (HB.out.keep hB)))).mono ?_; rintro e w4 ⟨he, k4, rfl⟩; obtain rfl := he.elim_no HP.out; clear he; replace hB := Below.drewN hB k4; replace hZ := hZ.drewN k4)))
  refine parse_ret (g := w.heap.size) (t := 25) (v0 := .int .i64 0) (v1 := .int .i64 0) (v2 := .slice none 0 0) (v3 := .int .i64 0) (x := .int .i64 3) ?_ rfl rfl rfl ⟨.no HN.out, ?_⟩
  · first
      | with_reducible exact hZ.set _ _ _ _
      | with_reducible exact (hZ.set _ _ _ _).alloc _
      | with_reducible exact (four_otherP hZ _ _).set _ _ _ _
  · first
      | with_reducible exact below_set4 hB _ _ _ _
      | with_reducible exact below_alloc (below_set4 hB _ _ _ _) _
      | with_reducible exact below_set4 (below_setP hB _ _) _ _ _ _

end Go.Proofs.YtgiellpepnbpcaaDoor
