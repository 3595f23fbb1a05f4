/- Taps: what package tabs, and the document's own answer, come to. -/
import Derived.Test.YtjcbcmloenhohabDoorTabsB
import Derived.Deep.MidRow
namespace Go.Proofs.YtjcbcmloenhohabDoor
open Go.RowKit

def tapsT : Nat → List Int
  | 0 => [13, 22, 39, 23, 12]
  | 1 => [-1, 36, 64, 27, -6]
  | 2 => [4, 6, 24, 7, 5]
  | 3 => [-2, 6, 118, 7, -3]
  | 4 => [2, 10, 70, 15, 0]
  | 5 => [-9, 30, 80, 34, -10]
  | 6 => [0, 0, 96, 0, 0]
  | 7 => [5, 29, 50, 29, 5]
  | _ => [0, 0, 0, 0, 0]
def tapsL (i : Int) : List Int := if i < 0 then [0, 0, 0, 0, 0] else tapsT i.toNat
def tapsV (i : Int) : Value := .agg ((tapsL i).map (Value.int .i64)).toArray

theorem tapsT_far : ∀ k : Nat, tapsT (k + 8) = [0, 0, 0, 0, 0] := fun _ => rfl

theorem tapsV_far {i : Int} (h : i < 0 ∨ 7 < i) : tapsV i = .agg #[.int .i64 0, .int .i64 0, .int .i64 0, .int .i64 0, .int .i64 0] := by
  unfold tapsV tapsL
  split
  · rfl
  · obtain ⟨n, hn⟩ : ∃ n, i.toNat = n + 8 := ⟨i.toNat - 8, by omega⟩
    rw [hn, tapsT_far]; rfl

def tapsArr : Array Value := #[.int .i64 13, .int .i64 22, .int .i64 39, .int .i64 23, .int .i64 12, .int .i64 (-1), .int .i64 36, .int .i64 64, .int .i64 27, .int .i64 (-6), .int .i64 4, .int .i64 6, .int .i64 24, .int .i64 7, .int .i64 5, .int .i64 (-2), .int .i64 6, .int .i64 118, .int .i64 7, .int .i64 (-3), .int .i64 2, .int .i64 10, .int .i64 70, .int .i64 15, .int .i64 0, .int .i64 (-9), .int .i64 30, .int .i64 80, .int .i64 34, .int .i64 (-10), .int .i64 0, .int .i64 0, .int .i64 96, .int .i64 0, .int .i64 0, .int .i64 5, .int .i64 29, .int .i64 50, .int .i64 29, .int .i64 5]

/-- The variable of the taps holds what the program's text lays. -/
def TapsAt (w : World) : Prop := ∃ ty fr, w.heap[1]? = some (.cells tapsArr ty fr)

theorem TapsAt.size {w : World} (h : TapsAt w) : 1 < w.heap.size := by
  obtain ⟨ty, fr, h⟩ := h
  exact (Array.getElem?_eq_some_iff.1 h).1

theorem TapsAt.below {w w' : World} {B : Nat} (h : TapsAt w) (hb : Below B w w') (hB : w.heap.size ≤ B) : TapsAt w' := by
  have hs := h.size
  obtain ⟨ty, fr, h⟩ := h
  exact ⟨ty, fr, by rw [hb.block 1 (Nat.lt_of_lt_of_le hs hB)]; exact h⟩

theorem taps_five : ∀ n : Nat, n < 8 → ∃ v0 v1 v2 v3 v4 : Int, tapsT n = [v0, v1, v2, v3, v4] ∧ tapsArr[n * 5]? = some (.int .i64 v0) ∧ tapsArr[n * 5 + 1]? = some (.int .i64 v1) ∧ tapsArr[n * 5 + 2]? = some (.int .i64 v2) ∧
    tapsArr[n * 5 + 3]? = some (.int .i64 v3) ∧ tapsArr[n * 5 + 4]? = some (.int .i64 v4)
  | 0, _ | 1, _ | 2, _ | 3, _ | 4, _ | 5, _ | 6, _ | 7, _ => ⟨_, _, _, _, _, rfl, rfl, rfl, rfl, rfl, rfl⟩
  | n + 8, h => absurd h (by omega)

theorem taps_any (i : Int) (w : World) (h : TapsAt w) :
    Calls Tryd.prog 13 #[.int .i64 i] w fun e w' => e = .returned (tapsV i) ∧ Below w.heap.size w w' := by
  by_cases hi : i < 0 ∨ 7 < i
  · rw [tapsV_far hi]
    clear h
    rcases hi with hi | hi
    all_goals
      go_enter Tryd.func13, Tryd.ntmps13
      go_wp2
      exact bodyPost_ret (v := .agg #[.int .i64 0, .int .i64 0, .int .i64 0, .int .i64 0, .int .i64 0]) (by simp [results, Tryd.results13, go_sem]) rfl ⟨rfl, (Below.refl _ _).alloc (Nat.le_refl _) _⟩
  · obtain ⟨n, rfl⟩ := Int.eq_ofNat_of_zero_le (show 0 ≤ i by omega)
    have hn : n < 8 := by omega
    obtain ⟨ty, fr, hg⟩ := h
    obtain ⟨v0, v1, v2, v3, v4, ht, g0, g1, g2, g3, g4⟩ := taps_five n hn
    have hnew : ∀ o : Obj, (w.alloc o).heap[1]? = some (.cells tapsArr ty fr) := fun o => by
      rw [Below.heap_alloc w o _ (Array.getElem?_eq_some_iff.1 hg).1]; exact hg
    have HG : ∀ o : Obj, ∀ j v, tapsArr[j]? = some v → (w.alloc o).cell? ⟨1, j, none⟩ = some v := fun o j v hv => by
      simp [World.cell?, hnew o, hv]
    have c0 := fun o => HG o _ _ g0
    have c1 := fun o => HG o _ _ g1
    have c2 := fun o => HG o _ _ g2
    have c3 := fun o => HG o _ _ g3
    have c4 := fun o => HG o _ _ g4
    have e : tapsV (n : Int) = .agg #[.int .i64 v0, .int .i64 v1, .int .i64 v2, .int .i64 v3, .int .i64 v4] := by
      rw [tapsV, tapsL, if_neg (by omega), show ((n : Int)).toNat = n from rfl, ht]; rfl
    rw [e]
    clear hi hnew hg HG g0 g1 g2 g3 g4 ht e
    go_enter Tryd.func13, Tryd.ntmps13
    go_wp2
    exact bodyPost_ret (v := .agg #[.int .i64 v0, .int .i64 v1, .int .i64 v2, .int .i64 v3, .int .i64 v4]) (by simp [results, Tryd.results13, go_sem]) rfl ⟨rfl, (Below.refl _ _).alloc (Nat.le_refl _) _⟩

theorem below_setRow {B : Nat} {a w : World} (h : Below B a w) {g : Nat} (hg : B ≤ g) (cs : Array Value) : Below B a (w.setRow g cs) :=
  h.trans ⟨rfl, rfl, rfl, by simp [World.setRow], fun k hk => setRow_other w g k cs (by omega)⟩

def nought40 : Array Value := (List.replicate 40 (Value.int .i64 0)).toArray

/-- The worlds that the document's own taps go through: the result's cell, the table's, the table laid, the result laid. -/
theorem taps_new (w : World) (A : Obj) (cur : Array Value) (t : TypeId) : ((w.alloc A).alloc (.cells cur t)).heap[w.heap.size + 1]? = some (.cells cur t (0, 0)) := by
  have h := heap_alloc_new (w.alloc A) (.cells cur t)
  have hs : (w.alloc A).heap.size = w.heap.size + 1 := by simp
  rw [hs] at h; exact h
theorem taps_old (w : World) (cur : Array Value) (t : TypeId) (B : Obj) (cs : Array Value) : (((w.alloc (.cells cur t)).alloc B).setRow (w.heap.size + 1) cs).heap[w.heap.size]? = some (.cells cur t (0, 0)) := by
  rw [setRow_other _ _ _ _ (by omega), Below.heap_alloc _ _ _ (by simp)]
  exact heap_alloc_new w _
theorem taps_set (w : World) (cur : Array Value) (t : TypeId) (B : Obj) (cs ds : Array Value) : ((((w.alloc (.cells cur t)).alloc B).setRow (w.heap.size + 1) cs).setRow w.heap.size ds).heap[w.heap.size]? = some (.cells ds t (0, 0)) :=
  setRow_heap _ _ _ _ _ _ (taps_old w cur t B cs)
theorem taps_below (w : World) (A B : Obj) (cs ds : Array Value) : Below w.heap.size w ((((w.alloc A).alloc B).setRow (w.heap.size + 1) cs).setRow w.heap.size ds) :=
  below_setRow (below_setRow (((Below.refl _ _).alloc (Nat.le_refl _) _).alloc (by simp) _) (by omega) _) (Nat.le_refl _) _

end Go.Proofs.YtjcbcmloenhohabDoor
