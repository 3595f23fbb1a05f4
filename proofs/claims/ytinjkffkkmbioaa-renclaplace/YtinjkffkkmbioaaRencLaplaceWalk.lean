/- The law of numbers that are mostly small answers true. -/
import Derived.Test.YtinjkffkkmbioaaRwJ
namespace Go.Proofs.Ytinjkffkkmbioaa
open Go.RowKit

theorem lapW_side (fs decay : Nat) (v : Int) : (0 ≤ v → 0 ≤ lapW fs decay v ∧ lapW fs decay v ≤ v) ∧ (v < 0 → lapW fs decay v ≤ 0 ∧ v ≤ lapW fs decay v) := by
  have h := nearN_le fs decay (sgN v) v.natAbs
  unfold lapW
  refine ⟨fun hv => ?_, fun hv => ?_⟩
  · have e : sgN v = false := decide_eq_false (by omega)
    rw [e] at h ⊢
    show 0 ≤ ((nearN fs decay false v.natAbs : Nat) : Int) ∧ ((nearN fs decay false v.natAbs : Nat) : Int) ≤ v
    omega
  · have e : sgN v = true := decide_eq_true hv
    rw [e] at h ⊢
    show -((nearN fs decay true v.natAbs : Nat) : Int) ≤ 0 ∧ v ≤ -((nearN fs decay true v.natAbs : Nat) : Int)
    omega

theorem lapW_zero (fs decay : Nat) : lapW fs decay 0 = 0 := by
  unfold lapW sgN
  rw [decide_eq_false (by decide)]
  exact sg_zero false

theorem lapW_again {fs decay : Nat} (hfs : 1 ≤ fs) (v : Int) : lapW fs decay (lapW fs decay v) = lapW fs decay v ∧
    (lapW fs decay v ≠ v → lapW fs decay (if v < 0 then lapW fs decay v - 1 else lapW fs decay v + 1) = lapW fs decay v) := by
  obtain ⟨g1, g2⟩ := nearN_again (decay := decay) hfs (sgN v) v.natAbs
  obtain ⟨n, hn⟩ : ∃ n, nearN fs decay (sgN v) v.natAbs = n := ⟨_, rfl⟩
  have hw : lapW fs decay v = sg (sgN v) n := by unfold lapW; rw [hn]
  rw [hn] at g1 g2
  rw [hw]
  by_cases hv : v < 0
  · have e : sgN v = true := decide_eq_true hv
    rw [e] at g1 g2 ⊢
    have es : sg true n = -(n : Int) := rfl
    rw [es, if_pos hv]
    refine ⟨?_, fun hne => ?_⟩
    · by_cases h0 : n = 0
      · subst h0
        exact lapW_zero fs decay
      · unfold lapW
        have e1 : sgN (-(n : Int)) = true := decide_eq_true (by omega)
        rw [e1, show (-(n : Int)).natAbs = n by omega, g1]
        rfl
    · unfold lapW
      have e1 : sgN (-(n : Int) - 1) = true := decide_eq_true (by omega)
      rw [e1, show (-(n : Int) - 1).natAbs = n + 1 by omega, g2 (by omega)]
      rfl
  · have e : sgN v = false := decide_eq_false hv
    rw [e] at g1 g2 ⊢
    have es : sg false n = (n : Int) := rfl
    rw [es, if_neg hv]
    refine ⟨?_, fun hne => ?_⟩
    · unfold lapW
      have e1 : sgN (n : Int) = false := decide_eq_false (by omega)
      rw [e1, show ((n : Int)).natAbs = n by omega, g1]
      rfl
    · unfold lapW
      have e1 : sgN ((n : Int) + 1) = false := decide_eq_false (by omega)
      rw [e1, show ((n : Int) + 1).natAbs = n + 1 by omega, g2 (by omega)]
      rfl

set_option maxRecDepth 100000 in
set_option maxHeartbeats 3200000 in
theorem rencLaplace.run (v fs decay : Int) (w : World) (hv : -9223372036854775808 ≤ v ∧ v ≤ 9223372036854775807) (hok : lapOk fs decay) :
    Calls Try.prog 6 #[.int .i64 v, .int .i64 fs, .int .i64 decay] w fun e w' => e = .returned (.bool true) ∧ Below w.heap.size w w' := by
  have hb := Below.refl w.heap.size w
  obtain ⟨s1, s2⟩ := lapW_side fs.toNat decay.toNat v
  obtain ⟨a1, a2⟩ := lapW_again (fs := fs.toNat) (decay := decay.toNat) (by have := hok.1; omega) v
  obtain ⟨W, hW⟩ : ∃ W, lapW fs.toNat decay.toNat v = W := ⟨_, rfl⟩
  rw [hW] at s1 s2 a1 a2
  have hLap : ∀ x : Int, -9223372036854775808 ≤ x → x ≤ 9223372036854775807 → ∀ (S : Nat → Prop) (p : Nat) (V : World), Wd S p initE V →
      Calls Try.prog 12 #[.pointer (some ⟨p, 0, none⟩), .int .i64 x, .int .i64 fs, .int .i64 decay] V fun e w' => e = .returned (.tuple #[.int .i64 (lapW fs.toNat decay.toNat x), .int .i64 0]) ∧ ∃ S' s', Wd S' p s' w' ∧ Went S V S' w' := fun x h1 h2 S p V he =>
    (lapWE_int S p initE x fs decay V he initE_inv hok ⟨h1, h2⟩ (by decide)).mono fun e w' ⟨h3, S', h4, h5⟩ => ⟨h3, S', _, h4, h5⟩
  have HL : Hid (∀ x : Int, -9223372036854775808 ≤ x → x ≤ 9223372036854775807 → ∀ (S : Nat → Prop) (p : Nat) (V : World), Wd S p initE V →
      Calls Try.prog 12 #[.pointer (some ⟨p, 0, none⟩), .int .i64 x, .int .i64 fs, .int .i64 decay] V fun e w' => e = .returned (.tuple #[.int .i64 (lapW fs.toNat decay.toNat x), .int .i64 0]) ∧ ∃ S' s', Wd S' p s' w' ∧ Went S V S' w') := hLap
  obtain ⟨o1, o2, o3, o4⟩ := hok
  have n1 : Hid True := trivial
  have n2 : Hid True := trivial
  have n3 : Hid True := trivial
  have l1 : Hid True := trivial
  have l2 : Hid True := trivial
  have l3 : Hid True := trivial
  have HW : Hid (lapW fs.toNat decay.toNat v = W ∧ lapW fs.toNat decay.toNat W = W) := ⟨hW, a1⟩
  obtain ⟨hv1, hv2⟩ := hv
  clear hLap hW a1
  by_cases h0 : 0 ≤ v
  · obtain ⟨t1, t2⟩ := s1 h0
    have hnv : ¬ v < 0 := by omega
    rw [if_neg hnv] at a2
    have HX : Hid (W ≠ v → lapW fs.toNat decay.toNat (W + 1) = W) := a2
    clear s1 s2 a2
    by_cases hwv : W = v
    · subst hwv
      go_enter Try.func6, Try.ntmps6
      go_wp2_with (first
        | (go_at_call 9; refine (awake_any _).mono ?_; rintro e w1 ⟨rfl, hb1⟩; replace hb := hb.trans (hb1.mono hb.size); clear hb1)
        | (go_at_call 10; clear n1; go_loud (refine (newE_any _).mono ?_; rintro e w1 ⟨p, S, rfl, he, hS, hb1⟩; replace hS := fun k hk => Nat.le_trans hb.size (hS k hk); replace hb := hb.trans (hb1.mono hb.size); clear hb1))
        | (go_at_call 12; clear l1; go_loud (refine (HL.out _ hv1 hv2 S p _ he).mono ?_; rw [HW.out.1]; rintro e w1 ⟨rfl, S2, s2, he2, hw2⟩; replace hb := hb.trans (hw2.below hS hb.size); clear hw2 he he2 hS))
        | (go_at_call 10; clear n2; go_loud (refine (newE_any _).mono ?_; rintro e w1 ⟨p, S, rfl, he, hS, hb1⟩; replace hS := fun k hk => Nat.le_trans hb.size (hS k hk); replace hb := hb.trans (hb1.mono hb.size); clear hb1))
        | (go_at_call 12; clear l2; go_loud (refine (HL.out _ hv1 hv2 S p _ he).mono ?_; rw [HW.out.2]; rintro e w1 ⟨rfl, S2, s2, he2, hw2⟩; replace hb := hb.trans (hw2.below hS hb.size); clear hw2 he he2 hS)))
      go_ret
      exact ⟨rfl, hb⟩
    · have hne : (W == v) = false := beq_eq_false_iff_ne.2 hwv
      have hw1 : -9223372036854775808 ≤ W := by omega
      have hw2 : W ≤ 9223372036854775807 := by omega
      have hw3 : -9223372036854775808 ≤ W + 1 := by omega
      have hw4 : W + 1 ≤ 9223372036854775807 := by omega
      have HX1 : Hid (lapW fs.toNat decay.toNat (W + 1) = W) := HX.out hwv
      go_enter Try.func6, Try.ntmps6
      go_wp2_with (first
        | (go_at_call 9; refine (awake_any _).mono ?_; rintro e w1 ⟨rfl, hb1⟩; replace hb := hb.trans (hb1.mono hb.size); clear hb1)
        | (go_at_call 10; clear n1; go_loud (refine (newE_any _).mono ?_; rintro e w1 ⟨p, S, rfl, he, hS, hb1⟩; replace hS := fun k hk => Nat.le_trans hb.size (hS k hk); replace hb := hb.trans (hb1.mono hb.size); clear hb1))
        | (go_at_call 12; clear l1; go_loud (refine (HL.out _ hv1 hv2 S p _ he).mono ?_; rw [HW.out.1]; rintro e w1 ⟨rfl, S2, s2, he2, hw2⟩; replace hb := hb.trans (hw2.below hS hb.size); clear hw2 he he2 hS))
        | (go_at_call 10; clear n2; go_loud (refine (newE_any _).mono ?_; rintro e w1 ⟨p, S, rfl, he, hS, hb1⟩; replace hS := fun k hk => Nat.le_trans hb.size (hS k hk); replace hb := hb.trans (hb1.mono hb.size); clear hb1))
        | (go_at_call 12; clear l2; go_loud (refine (HL.out _ hw1 hw2 S p _ he).mono ?_; rw [HW.out.2]; rintro e w1 ⟨rfl, S2, s2, he2, hw2⟩; replace hb := hb.trans (hw2.below hS hb.size); clear hw2 he he2 hS))
        | (go_at_call 10; clear n3; go_loud (refine (newE_any _).mono ?_; rintro e w1 ⟨p, S, rfl, he, hS, hb1⟩; replace hS := fun k hk => Nat.le_trans hb.size (hS k hk); replace hb := hb.trans (hb1.mono hb.size); clear hb1))
        | (go_at_call 12; clear l3; go_loud (refine (HL.out _ hw3 hw4 S p _ he).mono ?_; rw [HX1.out]; rintro e w1 ⟨rfl, S2, s2, he2, hw2⟩; replace hb := hb.trans (hw2.below hS hb.size); clear hw2 he he2 hS)))
      go_ret
      exact ⟨rfl, hb⟩
  · have hneg : v < 0 := by omega
    obtain ⟨t1, t2⟩ := s2 hneg
    rw [if_pos hneg] at a2
    have HX : Hid (W ≠ v → lapW fs.toNat decay.toNat (W - 1) = W) := a2
    clear s1 s2 a2
    by_cases hwv : W = v
    · subst hwv
      go_enter Try.func6, Try.ntmps6
      go_wp2_with (first
        | (go_at_call 9; refine (awake_any _).mono ?_; rintro e w1 ⟨rfl, hb1⟩; replace hb := hb.trans (hb1.mono hb.size); clear hb1)
        | (go_at_call 10; clear n1; go_loud (refine (newE_any _).mono ?_; rintro e w1 ⟨p, S, rfl, he, hS, hb1⟩; replace hS := fun k hk => Nat.le_trans hb.size (hS k hk); replace hb := hb.trans (hb1.mono hb.size); clear hb1))
        | (go_at_call 12; clear l1; go_loud (refine (HL.out _ hv1 hv2 S p _ he).mono ?_; rw [HW.out.1]; rintro e w1 ⟨rfl, S2, s2, he2, hw2⟩; replace hb := hb.trans (hw2.below hS hb.size); clear hw2 he he2 hS))
        | (go_at_call 10; clear n2; go_loud (refine (newE_any _).mono ?_; rintro e w1 ⟨p, S, rfl, he, hS, hb1⟩; replace hS := fun k hk => Nat.le_trans hb.size (hS k hk); replace hb := hb.trans (hb1.mono hb.size); clear hb1))
        | (go_at_call 12; clear l2; go_loud (refine (HL.out _ hv1 hv2 S p _ he).mono ?_; rw [HW.out.2]; rintro e w1 ⟨rfl, S2, s2, he2, hw2⟩; replace hb := hb.trans (hw2.below hS hb.size); clear hw2 he he2 hS)))
      go_ret
      exact ⟨rfl, hb⟩
    · have hne : (W == v) = false := beq_eq_false_iff_ne.2 hwv
      have hw1 : -9223372036854775808 ≤ W := by omega
      have hw2 : W ≤ 9223372036854775807 := by omega
      have hw3 : -9223372036854775808 ≤ W - 1 := by omega
      have hw4 : W - 1 ≤ 9223372036854775807 := by omega
      have HX1 : Hid (lapW fs.toNat decay.toNat (W - 1) = W) := HX.out hwv
      go_enter Try.func6, Try.ntmps6
      go_wp2_with (first
        | (go_at_call 9; refine (awake_any _).mono ?_; rintro e w1 ⟨rfl, hb1⟩; replace hb := hb.trans (hb1.mono hb.size); clear hb1)
        | (go_at_call 10; clear n1; go_loud (refine (newE_any _).mono ?_; rintro e w1 ⟨p, S, rfl, he, hS, hb1⟩; replace hS := fun k hk => Nat.le_trans hb.size (hS k hk); replace hb := hb.trans (hb1.mono hb.size); clear hb1))
        | (go_at_call 12; clear l1; go_loud (refine (HL.out _ hv1 hv2 S p _ he).mono ?_; rw [HW.out.1]; rintro e w1 ⟨rfl, S2, s2, he2, hw2⟩; replace hb := hb.trans (hw2.below hS hb.size); clear hw2 he he2 hS))
        | (go_at_call 10; clear n2; go_loud (refine (newE_any _).mono ?_; rintro e w1 ⟨p, S, rfl, he, hS, hb1⟩; replace hS := fun k hk => Nat.le_trans hb.size (hS k hk); replace hb := hb.trans (hb1.mono hb.size); clear hb1))
        | (go_at_call 12; clear l2; go_loud (refine (HL.out _ hw1 hw2 S p _ he).mono ?_; rw [HW.out.2]; rintro e w1 ⟨rfl, S2, s2, he2, hw2⟩; replace hb := hb.trans (hw2.below hS hb.size); clear hw2 he he2 hS))
        | (go_at_call 10; clear n3; go_loud (refine (newE_any _).mono ?_; rintro e w1 ⟨p, S, rfl, he, hS, hb1⟩; replace hS := fun k hk => Nat.le_trans hb.size (hS k hk); replace hb := hb.trans (hb1.mono hb.size); clear hb1))
        | (go_at_call 12; clear l3; go_loud (refine (HL.out _ hw3 hw4 S p _ he).mono ?_; rw [HX1.out]; rintro e w1 ⟨rfl, S2, s2, he2, hw2⟩; replace hb := hb.trans (hw2.below hS hb.size); clear hw2 he he2 hS)))
      go_ret
      exact ⟨rfl, hb⟩

theorem rencLaplace.walk (v fs decay : Int) (w : World) (h0 : (Lit.int .i64 v).wf = true) (_h1 : (Lit.int .i64 fs).wf = true) (_h2 : (Lit.int .i64 decay).wf = true) :
    Calls Try.prog 6 #[.int .i64 v, .int .i64 fs, .int .i64 decay] w fun e w' => e = .returned (.bool true) ∧ Below w.heap.size w w' := by
  have hv := bounds_i64 h0
  by_cases hok : lapOk fs decay
  · exact rencLaplace.run v fs decay w hv hok
  · have hb := Below.refl w.heap.size w
    clear h0 hv
    by_cases g1 : fs < 256
    · clear hok
      go_enter Try.func6, Try.ntmps6
      go_wp2_with (go_at_call 9; refine (awake_any _).mono ?_; rintro e w1 ⟨rfl, hb1⟩; replace hb := hb.trans (hb1.mono hb.size); clear hb1)
      go_ret
      exact ⟨rfl, hb⟩
    · by_cases g2 : 28000 < fs
      · clear hok
        go_enter Try.func6, Try.ntmps6
        go_wp2_with (go_at_call 9; refine (awake_any _).mono ?_; rintro e w1 ⟨rfl, hb1⟩; replace hb := hb.trans (hb1.mono hb.size); clear hb1)
        go_ret
        exact ⟨rfl, hb⟩
      · by_cases g3 : decay < 0
        · clear hok
          go_enter Try.func6, Try.ntmps6
          go_wp2_with (go_at_call 9; refine (awake_any _).mono ?_; rintro e w1 ⟨rfl, hb1⟩; replace hb := hb.trans (hb1.mono hb.size); clear hb1)
          go_ret
          exact ⟨rfl, hb⟩
        · have g4 : 16000 < decay := by unfold lapOk at hok; omega
          clear hok
          go_enter Try.func6, Try.ntmps6
          go_wp2_with (go_at_call 9; refine (awake_any _).mono ?_; rintro e w1 ⟨rfl, hb1⟩; replace hb := hb.trans (hb1.mono hb.size); clear hb1)
          go_ret
          exact ⟨rfl, hb⟩

end Go.Proofs.Ytinjkffkkmbioaa
