/- The law LevinFirst answers true: a sound of which each sample is a part of the one ahead is foretold by about that part. -/
import Derived.Test.YtjaccokmficfdaaLevJ
import Derived.Test.YtjaccokmficfdaaLevinO
namespace Go.Proofs.Ytjaccokmficfdaa
open Go.RowKit Lev

theorem partL_succ (p : Int) (k : Nat) : partL p k ++ [partX p k] = partL p (k + 1) := by
  unfold partL
  rw [List.range_succ, List.map_append]
  rfl
set_option maxRecDepth 100000 in
set_option maxHeartbeats 3200000 in
theorem levinFirst.walk (p n : Int) (w : World) (_ : (Lit.int .i64 p).wf = true) (_ : (Lit.int .i64 n).wf = true) :
    Calls Try.prog 6 #[.int .i64 p, .int .i64 n] w fun e w' => e = .returned (.bool true) ∧ Below w.heap.size w w' := by
  have hb := Below.refl w.heap.size w
  by_cases hg : -3686 ≤ p ∧ p ≤ 3686 ∧ 200 ≤ n ∧ n ≤ 400
  · obtain ⟨hp1, hp2, hn1, hn2⟩ := hg
    obtain ⟨n, rfl⟩ : ∃ N : Nat, n = (N : Int) := ⟨n.toNat, by omega⟩
    have hpa : p.natAbs ≤ 3686 := by omega
    obtain ⟨z, hz1, hz2, hz3⟩ := solve_part hpa (n := n) (by omega)
    have HS : Hid (solveZ (autoL (partL p n) 1) = [z] ∧ z - p ≤ 40 ∧ -40 ≤ z - p) := ⟨hz1, hz2, hz3⟩
    have HN : Hid (n ≤ 960 ∧ n ≤ 100000 ∧ 200 ≤ n) := ⟨by omega, by omega, by omega⟩
    have HX : Hid (∀ k, -30000 ≤ partX p k ∧ partX p k ≤ 30000 ∧ partX p (k + 1) = (partX p k * p).tdiv 4096) := fun k => by
      have h := partX_in hpa k
      exact ⟨by omega, by omega, rfl⟩
    have H0 : Hid (partX p 0 = 30000) := rfl
    have HSUC : Hid (∀ k, partL p k ++ [partX p k] = partL p (k + 1)) := partL_succ p
    have HLN : Hid ((partL p n).length = n) := partL_len p n
    clear hz1 hz2 hz3 hpa
    go_enter Try.func6, Try.ntmps6
    go_wp2_with (go_at_call 9; go_loud (refine (awake_any w).mono ?_; rintro e w1 ⟨rfl, hb1⟩; replace hb := hb.trans (hb1.mono hb.size); clear hb1))
    go_loopw [5, 6, 7] (fun v l i W => ∃ k : Nat, k ≤ n ∧ i = .int .i64 k ∧ v = .int .i64 (partX p k) ∧ Hid (W.ownsRow w.heap.size 2 1 l k ((partL p k).map (Value.int .i64)) ∧ Below w.heap.size w W)) (fun _ _ i _ => n - (intOf i).toNat)
    case atStart => exact ⟨0, Nat.zero_le _, rfl, by rw [H0.out], World.ownsRow_nil _ _ _ _, hb⟩
    case round =>
      clear hb
      obtain ⟨k, hk, rfl, rfl, HH⟩ := hrel
      by_cases hlt : k < n
      · obtain ⟨hown, hbel⟩ := HH.out
        have hsz := hbel.size
        have hxk := HX.out k
        have hs := HSUC.out k
        have HK : Hid (k ≤ 1000000) := by have := HN.out; show _ ≤ _; omega
        obtain ⟨y, hy⟩ : ∃ y, partX p (k + 1) = y := ⟨_, rfl⟩
        have HY : Hid (partX p (k + 1) = y) := hy
        rw [hy] at hxk
        have hyb := HX.out (k + 1)
        rw [hy] at hyb
        generalize partX p k = v at *
        have HV : Hid (partL p k ++ [v] = partL p (k + 1)) := hs
        have hprod : -120000000 ≤ v * p ∧ v * p ≤ 120000000 := by
          have h1 : (v * p).natAbs ≤ 30000 * 3686 := by
            rw [Int.natAbs_mul]
            exact Nat.mul_le_mul (by omega) (by omega)
          omega
        obtain ⟨vp, hvp⟩ : ∃ t, v * p = t := ⟨_, rfl⟩
        rw [hvp] at hxk hprod
        have HW1 : Hid (wrap64 (v * p) = vp) := by show _ = _; rw [hvp]; exact i64_wrap (by omega) (by omega)
        have HW2 : Hid (wrap64 (vp.tdiv 4096) = y) := by
          show _ = _
          rw [← hxk.2.2]
          exact i64_wrap (by omega) (by omega)
        have hkn : (k : Int) < (n : Int) := by omega
        clear HH hxk hyb hprod hvp hy hs
        go_wp2_with (at_builtin; go_loud (refine wpList_append_one 23 2 Try.underlying23 info_int64 w.heap.size _ k _ _ hown HK.out hsz rfl _ _ rfl rfl rfl ?_; rw [HV.out]; intro v' w10 hown2 hb2; have hb3 := hbel.trans hb2))
        go_roundw
        case rel => exact ⟨k + 1, by omega, by go_num, by rw [HW1.out, HW2.out, HY.out], hown2, hb3⟩
        case measure => simp [intOf]; omega
      · have hkn : n = k := by omega
        subst hkn
        obtain ⟨hown, hbel⟩ := HH.out
        obtain ⟨_, a2, c2, rfl, hnew⟩ := NewRow.of_owned hown
        have HZ2 : Hid (Zs wr a2 n (partL p n)) := Zs.of_new hnew HLN.out
        have HB : Hid (Below w.heap.size w wr) := hbel
        clear HH hown hbel hnew
        go_wp2_with (first
          | (go_at_call 10; go_loud (refine (pAuto_int a2 n c2 1 1 rfl (partL p n) _ HZ2.out HN.out.1 (by decide) (by decide)).mono ?_; rintro e w5 ⟨a5, c5, rfl, hr5, hb5⟩; have hb6 := HB.out.trans (hb5.mono HB.out.size); clear hb5))
          | (go_at_call 11; go_loud (refine (pSolve_yes a5 2 c5 1 (autoL (partL p n) 1) _ (Zs.of_new hr5 (autoL_len _ _)) rfl (by decide) (by decide)).mono ?_; rw [HS.out.1]; rintro e w6 ⟨a6, c6, rfl, hr6, hb7⟩; obtain ⟨g6, rfl, _, _⟩ := hr6.some_of (Nat.succ_pos 0); have hc := hr6.cellAt (i := 0) (Nat.succ_pos 0); have hb8 := hb6.trans (hb7.mono hb6.size); simp at hc; obtain ⟨_, hz1, hz2⟩ := HS.out; have hwz : wrap64 (z - p) = z - p := i64_wrap (by omega) (by omega); clear hb7)))
        go_ret
        exact ⟨rfl, hb8⟩
  · have HG : Hid (¬ (-3686 ≤ p ∧ p ≤ 3686 ∧ 200 ≤ n ∧ n ≤ 400)) := hg
    clear hg
    go_enter Try.func6, Try.ntmps6
    go_wp2_with (go_at_call 9; go_loud (refine (awake_any w).mono ?_; rintro e w1 ⟨rfl, hb1⟩; replace hb := hb.trans (hb1.mono hb.size); clear hb1))
    all_goals first
      | (exfalso; have := HG.out; omega)
      | (go_ret; exact ⟨rfl, hb⟩)

end Go.Proofs.Ytjaccokmficfdaa
