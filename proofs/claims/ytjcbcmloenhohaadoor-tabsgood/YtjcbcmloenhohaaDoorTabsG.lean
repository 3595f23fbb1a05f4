/- Taps: what the document's own answer comes to, at every place. -/
import Derived.Test.YtjcbcmloenhohaaDoorTabsF
namespace Go.Proofs.YtjcbcmloenhohaaDoor
open Go.RowKit

set_option maxHeartbeats 2000000 in
theorem rtaps_near (n : Nat) (hn : n < 8) (w : World) :
    Calls Tryd.prog 27 #[.int .i64 (n : Int)] w fun e w' => e = .returned (tapsV (n : Int)) ∧ Below w.heap.size w w' := by
  obtain ⟨v0, v1, v2, v3, v4, ht, g0, g1, g2, g3, g4⟩ := taps_five n hn
  have e : tapsV (n : Int) = .agg #[.int .i64 v0, .int .i64 v1, .int .i64 v2, .int .i64 v3, .int .i64 v4] := by
    rw [tapsV, tapsL, if_neg (by omega), show ((n : Int)).toNat = n from rfl, ht]; rfl
  rw [e]
  have HC : Hid (∀ A : Obj, ∀ cur : Array Value, ∀ t : TypeId, (((w.alloc A).alloc (.cells cur t)).setRow (w.heap.size + 1) tapsArr).rangeAt (w.heap.size + 1) (n * 5) [.int .i64 v0, .int .i64 v1, .int .i64 v2, .int .i64 v3, .int .i64 v4]) := fun A cur t j v hv => by
    have hj : tapsArr[n * 5 + j]? = some v := by
      match j, hv with
      | 0, hv => cases hv; exact g0
      | 1, hv => cases hv; exact g1
      | 2, hv => cases hv; exact g2
      | 3, hv => cases hv; exact g3
      | 4, hv => cases hv; exact g4
    exact (cell_setRow_same _ _ _ _ _ _ _ (taps_new w A cur t)).trans hj
  have HZ : Hid ((Tryd.prog.info? 28).map (·.size) = some 5) := by show _ = _; kernel_rfl
  clear g0 g1 g2 g3 g4 ht e
  go_enter Tryd.func27, Tryd.ntmps27
  go_wp2_with (first
    | (refine wpList_store_row rfl 40 _ _ rfl (w.heap.size + 1) tapsArr rfl rfl 40 nought40 (taps_new w _ _ _) (by kernel_rfl) rfl (by kernel_rfl) ?_)
    | (refine wpList_load_mid rfl 28 _ rfl (w.heap.size + 1) (n * 5) rfl [.int .i64 v0, .int .i64 v1, .int .i64 v2, .int .i64 v3, .int .i64 v4] _ (HC.out _ _ _) Tryd.underlying28 rfl HZ.out ?_)
    | (refine wpList_store_row rfl 28 _ _ rfl w.heap.size #[.int .i64 v0, .int .i64 v1, .int .i64 v2, .int .i64 v3, .int .i64 v4] rfl rfl 28 _ (taps_old w _ _ _ _) HZ.out rfl (by kernel_rfl) ?_))
  exact bodyPost_ret (results_cell_row rfl _ _ w.heap.size 28 #[.int .i64 v0, .int .i64 v1, .int .i64 v2, .int .i64 v3, .int .i64 v4] _ _ rfl (taps_set w _ _ _ _ _) Tryd.underlying28 rfl HZ.out) rfl ⟨rfl, taps_below w _ _ _ _⟩

theorem rtaps_any (i : Int) (w : World) :
    Calls Tryd.prog 27 #[.int .i64 i] w fun e w' => e = .returned (tapsV i) ∧ Below w.heap.size w w' := by
  by_cases hi : i < 0 ∨ 7 < i
  · exact rtaps_far i w hi
  · obtain ⟨n, rfl⟩ := Int.eq_ofNat_of_zero_le (show 0 ≤ i by omega)
    exact rtaps_near n (by omega) w

end Go.Proofs.YtjcbcmloenhohaaDoor
