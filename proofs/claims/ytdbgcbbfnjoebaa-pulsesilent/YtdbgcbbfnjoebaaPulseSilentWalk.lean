/- Noughts are written as noughts, one pulse anywhere is read where it was: whatever the length, the place, the sign. -/
import Derived.Test.YtdbgcbbfnjoebaaPulseBackWalk
import Derived.Test.YtdbgcbbfnjoebaaPulseW
namespace Go.Proofs.Ytdbgcbbfnjoebaa
open Go.RowKit

set_option maxRecDepth 100000 in
set_option maxHeartbeats 1600000 in
theorem pulseSilent.none0 (n at_ : Int) (b : Bool) (w : World) (h : ¬ (16 ≤ n ∧ n ≤ 320 ∧ n % 16 = 0 ∧ 0 ≤ at_ ∧ at_ < n)) :
    Calls Try.prog 8 #[.int .i64 n, .int .i64 at_, .bool b] w fun e w' => e = .returned (.bool true) ∧ Below w.heap.size w w' := by
  have hb := Below.refl w.heap.size w
  have HX : Hid (¬ (16 ≤ n ∧ n ≤ 320 ∧ n % 16 = 0 ∧ 0 ≤ at_ ∧ at_ < n)) := h
  clear h
  by_cases h1 : n < 16
  · go_enter Try.func8, Try.ntmps8
    go_wp2_with (go_at_call 9; refine (awake_any _).mono ?_; rintro e w1 ⟨rfl, hb1⟩; replace hb := hb.trans (hb1.mono hb.size); clear hb1)
    go_ret
    exact ⟨rfl, hb⟩
  · have h1' : (16 : Int) ≤ n := by omega
    have h1b : (n < 16) = False := eq_false h1
    by_cases h2 : 320 < n
    · clear h1
      go_enter Try.func8, Try.ntmps8
      go_wp2_with (go_at_call 9; refine (awake_any _).mono ?_; rintro e w1 ⟨rfl, hb1⟩; replace hb := hb.trans (hb1.mono hb.size); clear hb1)
      go_ret
      exact ⟨rfl, hb⟩
    · have h2' : n ≤ 320 := by omega
      have h2b : (320 < n) = False := eq_false h2
      by_cases h3 : n % 16 = 0
      · have h3' : (n % 16 == 0) = true := beq_iff_eq.2 h3
        have h3b : (n % 16 != 0) = false := by rw [h3]; rfl
        by_cases h4 : at_ < 0
        · clear h1 h2 h3
          go_enter Try.func8, Try.ntmps8
          go_wp2_with (go_at_call 9; refine (awake_any _).mono ?_; rintro e w1 ⟨rfl, hb1⟩; replace hb := hb.trans (hb1.mono hb.size); clear hb1)
          go_ret
          exact ⟨rfl, hb⟩
        · have h4b : (at_ < 0) = False := eq_false h4
          have h5 : n ≤ at_ := by have := HX.out; omega
          clear h1 h2 h3 h4
          go_enter Try.func8, Try.ntmps8
          go_wp2_with (go_at_call 9; refine (awake_any _).mono ?_; rintro e w1 ⟨rfl, hb1⟩; replace hb := hb.trans (hb1.mono hb.size); clear hb1)
          go_ret
          exact ⟨rfl, hb⟩
      · have h3' : (n % 16 == 0) = false := beq_eq_false_iff_ne.2 h3
        have h3b : (n % 16 != 0) = true := bne_iff_ne.2 h3
        clear h1 h2 h3
        go_enter Try.func8, Try.ntmps8
        go_wp2_with (go_at_call 9; refine (awake_any _).mono ?_; rintro e w1 ⟨rfl, hb1⟩; replace hb := hb.trans (hb1.mono hb.size); clear hb1)
        go_ret
        exact ⟨rfl, hb⟩

set_option maxRecDepth 100000 in
set_option maxHeartbeats 1600000 in
theorem pulseSilent.one (n m k : Nat) (b : Bool) (w : World) (hn : n = 16 * m) (hm1 : 1 ≤ m) (hm : m ≤ 20) (hk : k < n) :
    Calls Try.prog 8 #[.int .i64 n, .int .i64 k, .bool b] w fun e w' => e = .returned (.bool true) ∧ Below w.heap.size w w' := by
  have hb := Below.refl w.heap.size w
  obtain ⟨C, hC⟩ : ∃ C, madeCells #[.int .i64 0] n = C := ⟨_, rfl⟩
  have hmk := fun W : World => run_make_row' (P := Try.prog) 23 2 (.int .i64 0) 8 Try.underlying23 info_int64 rfl .i64 .i64 n (by omega) (by omega) W
  rw [hC] at hmk
  have hCk : C[k]? = some (.int .i64 0) := by rw [← hC]; simp [madeCells, hk, Nat.mod_one]
  have hCsz : k < C.size := by rw [← hC]; simp [madeCells, hk]
  have hCk2 : (C.setIfInBounds k (.int .i64 1))[k]? = some (.int .i64 1) := by simp [hCsz]
  have HROW : Hid (∀ (W : World) (g : Nat), g = W.heap.size → NewRow 2 g (W.alloc (.cells C 2)) (some ⟨g, 0, none⟩) (List.replicate n 0)) := fun W g hg => by
    rw [hg, ← hC]
    exact NewRow.made W n
  have HR1 : Hid (∀ (W : World) (g : Nat) (v : Int), g = W.heap.size → NewRow 2 g (W.alloc (.cells (C.setIfInBounds k (.int .i64 v)) 2)) (some ⟨g, 0, none⟩) ((List.replicate n 0).set k v)) := fun W g v hg => by
    subst hg
    have := (HROW.out W _ rfl).set k v
    rw [World.setCell_alloc_new] at this
    exact this
  have HG : Hid (goodL (List.replicate n 0) = true ∧ (∀ v : Int, absI v ≤ 16 → goodL ((List.replicate n 0).set k v) = true) ∧ n ≤ 320 ∧ (List.replicate n (0 : Int)).length = n ∧ ∀ v : Int, ((List.replicate n (0 : Int)).set k v).length = n) :=
    ⟨good_none0 hn hm1 (by omega), fun v hv => good_one hn hm1 (by omega) v hv hk, by omega, by rw [List.length_replicate], fun v => by rw [List.length_set, List.length_replicate]⟩
  have hnI : (16 : Int) ≤ n := by omega
  have hnI2 : (n : Int) ≤ 320 := by omega
  have h4 : (((n : Int) % 16) != 0) = false := by rw [show (n : Int) % 16 = 0 by omega]; rfl
  have h5 : ((n : Int) < 16) = False := eq_false (by omega)
  have h6 : ((320 : Int) < n) = False := eq_false (by omega)
  have hkI : (k : Int) < n := by omega
  have hkI2 : ((n : Int) ≤ k) = False := eq_false (by omega)
  have hkI3 : ((k : Int) < 0) = False := eq_false (by omega)
  clear hn hm1 hm hC
  cases b with
  | false =>
    have g1 : Hid True := trivial
    have g2 : Hid True := trivial
    go_enter Try.func8, Try.ntmps8
    go_wp2_with (first
      | (go_at_call 9; refine (awake_any _).mono ?_; rintro e w1 ⟨rfl, hb1⟩; replace hb := hb.trans (hb1.mono hb.size); clear hb1)
      | (go_at_call 13; clear g1; go_loud (refine (pgood_any _ n n (List.replicate n 0) _ (Zs.of_new (HROW.out w1 _ rfl) HG.out.2.2.2.1) (Nat.le_refl _)).mono ?_; rw [HG.out.1]; rintro e w2 ⟨rfl, rfl⟩))
      | (go_at_call 5; clear g2; go_loud (refine (pulseBack.gen _ n n ((List.replicate n 0).set k 1) _ (Zs.of_new (HR1.out w1 _ 1 rfl) (HG.out.2.2.2.2 1)) (Nat.le_refl _) (by have := HG.out.2.2.1; omega)).mono ?_; rintro e w3 ⟨rfl, hb3⟩; have hr3 := (HR1.out w1 _ 1 rfl).keep hb3; have hbA := (hb.alloc hb.size (.cells (C.setIfInBounds k (.int .i64 1)) 2)).trans (hb3.mono (by rw [World.size_alloc]; exact Nat.le_succ_of_le hb.size)); clear hb3))
      | (go_at_call 5; go_loud (refine (pulseBack.gen _ n n (List.replicate n 0) _ (Zs.of_new (HROW.out w3 _ rfl) HG.out.2.2.2.1) (Nat.le_refl _) (by have := HG.out.2.2.1; omega)).mono ?_; rintro e w4 ⟨rfl, hb4⟩; have hr4 := (hr3.alloc (.cells C 2)).keep hb4; have hbB := (hbA.alloc hbA.size (.cells C 2)).trans (hb4.mono (by rw [World.size_alloc]; exact Nat.le_succ_of_le hbA.size)); clear hb4))
      | (go_at_call 13; go_loud (refine (pgood_any _ n n ((List.replicate n 0).set k 1) _ (Zs.of_new hr4 (HG.out.2.2.2.2 1)) (Nat.le_refl _)).mono ?_; rw [HG.out.2.1 1 (by decide)]; rintro e w5 ⟨rfl, rfl⟩)))
    go_ret
    exact ⟨rfl, hbB⟩
  | true =>
    have g1 : Hid True := trivial
    have g2 : Hid True := trivial
    go_enter Try.func8, Try.ntmps8
    go_wp2_with (first
      | (go_at_call 9; refine (awake_any _).mono ?_; rintro e w1 ⟨rfl, hb1⟩; replace hb := hb.trans (hb1.mono hb.size); clear hb1)
      | (go_at_call 13; clear g1; go_loud (refine (pgood_any _ n n (List.replicate n 0) _ (Zs.of_new (HROW.out w1 _ rfl) HG.out.2.2.2.1) (Nat.le_refl _)).mono ?_; rw [HG.out.1]; rintro e w2 ⟨rfl, rfl⟩))
      | (go_at_call 5; clear g2; go_loud (refine (pulseBack.gen _ n n ((List.replicate n 0).set k (-1)) _ (Zs.of_new (HR1.out w1 _ (-1) rfl) (HG.out.2.2.2.2 (-1))) (Nat.le_refl _) (by have := HG.out.2.2.1; omega)).mono ?_; rintro e w3 ⟨rfl, hb3⟩; have hr3 := (HR1.out w1 _ (-1) rfl).keep hb3; have hbA := (hb.alloc hb.size (.cells (C.setIfInBounds k (.int .i64 (-1))) 2)).trans (hb3.mono (by rw [World.size_alloc]; exact Nat.le_succ_of_le hb.size)); clear hb3))
      | (go_at_call 5; go_loud (refine (pulseBack.gen _ n n (List.replicate n 0) _ (Zs.of_new (HROW.out w3 _ rfl) HG.out.2.2.2.1) (Nat.le_refl _) (by have := HG.out.2.2.1; omega)).mono ?_; rintro e w4 ⟨rfl, hb4⟩; have hr4 := (hr3.alloc (.cells C 2)).keep hb4; have hbB := (hbA.alloc hbA.size (.cells C 2)).trans (hb4.mono (by rw [World.size_alloc]; exact Nat.le_succ_of_le hbA.size)); clear hb4))
      | (go_at_call 13; go_loud (refine (pgood_any _ n n ((List.replicate n 0).set k (-1)) _ (Zs.of_new hr4 (HG.out.2.2.2.2 (-1))) (Nat.le_refl _)).mono ?_; rw [HG.out.2.1 (-1) (by decide)]; rintro e w5 ⟨rfl, rfl⟩)))
    go_ret
    exact ⟨rfl, hbB⟩

theorem pulseSilent.walk (n at_ : Int) (b : Bool) (w : World) (_w1 : (Lit.int .i64 n).wf = true) (_w2 : (Lit.int .i64 at_).wf = true) :
    Calls Try.prog 8 #[.int .i64 n, .int .i64 at_, .bool b] w fun e w' => e = .returned (.bool true) ∧ Below w.heap.size w w' := by
  by_cases h : 16 ≤ n ∧ n ≤ 320 ∧ n % 16 = 0 ∧ 0 ≤ at_ ∧ at_ < n
  · obtain ⟨h1, h2, h3, h4, h5⟩ := h
    obtain ⟨N, rfl⟩ := Int.eq_ofNat_of_zero_le (show 0 ≤ n by omega)
    obtain ⟨k, rfl⟩ := Int.eq_ofNat_of_zero_le h4
    exact pulseSilent.one N (N / 16) k b w (by omega) (by omega) (by omega) (by omega)
  · exact pulseSilent.none0 n at_ b w h

end Go.Proofs.Ytdbgcbbfnjoebaa
