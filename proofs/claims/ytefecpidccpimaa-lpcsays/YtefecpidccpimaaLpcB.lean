/- Arrays of 32 numbers in memory. -/
import Derived.Test.YtefecpidccpimaaLpcA
import Derived.Deep.MidRow
namespace Go.Proofs.Ytefecpidccpimaa
open Go.RowKit

def arrV (zs : List Int) : Array Value := (zs.map (Value.int .i64)).toArray
theorem arrV_size (zs : List Int) : (arrV zs).size = zs.length := by unfold arrV; simp
/-- The variable in block g holds the numbers zs. -/
def ArrAt (w : World) (g : Nat) (zs : List Int) : Prop := ∃ t, w.heap[g]? = some (.cells (arrV zs) t (0, 0))
theorem ArrAt.lt {w : World} {g : Nat} {zs : List Int} (h : ArrAt w g zs) : g < w.heap.size := by
  obtain ⟨t, h⟩ := h
  exact (Array.getElem?_eq_some_iff.1 h).1
theorem ArrAt.keep {w w' : World} {g : Nat} {zs : List Int} (h : ArrAt w g zs) (hb : Below w.heap.size w w') : ArrAt w' g zs := by
  have hl := h.lt
  obtain ⟨t, h⟩ := h
  exact ⟨t, (hb.block g hl).trans h⟩
theorem ArrAt.drew {w : World} {g : Nat} {zs : List Int} (h : ArrAt w g zs) : ArrAt w.drew g zs := h
theorem ArrAt.drewN {w : World} {g : Nat} {zs : List Int} (h : ArrAt w g zs) (k : Nat) : ArrAt (w.drewN k) g zs := h.keep (below_drewN (Below.refl _ _) k)
theorem ArrAt.other {w : World} {g : Nat} {zs : List Int} (h : ArrAt w g zs) {p : Addr} (hp : g ≠ p.block) (v : Value) : ArrAt (w.setCell p v) g zs := by
  obtain ⟨t, h⟩ := h
  exact ⟨t, by rw [Below.heap_setCell _ _ _ _ hp]; exact h⟩
theorem ArrAt.cell {w : World} {g : Nat} {zs : List Int} (h : ArrAt w g zs) {i : Nat} (hi : i < zs.length) : w.cell? ⟨g, i, none⟩ = some (.int .i64 (zs[i]?.getD 0)) := by
  obtain ⟨t, h⟩ := h
  have hm : (arrV zs)[i]? = some (.int .i64 (zs[i]?.getD 0)) := map_at zs i hi
  simp [World.cell?, h, hm]
theorem ArrAt.frozen {w : World} {g : Nat} {zs : List Int} (h : ArrAt w g zs) (i : Nat) : w.frozen? ⟨g, i, none⟩ = false := by
  obtain ⟨t, h⟩ := h
  simp [World.frozen?, h]
theorem arrV_set (zs : List Int) (i : Nat) (v : Int) : (arrV zs).setIfInBounds i (.int .i64 v) = arrV (zs.set i v) := by
  unfold arrV
  rw [List.setIfInBounds_toArray, List.map_set]
theorem ArrAt.set {w : World} {g : Nat} {zs : List Int} (h : ArrAt w g zs) (i : Nat) (v : Int) : ArrAt (w.setCell ⟨g, i, none⟩ (.int .i64 v)) g (zs.set i v) := by
  obtain ⟨t, h⟩ := h
  exact ⟨t, by rw [heap_setCell_same w g i _ t _ h, arrV_set]⟩
theorem ArrAt.row {w : World} {g : Nat} {old : List Int} (h : ArrAt w g old) (zs : List Int) : ArrAt (w.setRow g (arrV zs)) g zs := by
  obtain ⟨t, h⟩ := h
  exact ⟨t, setRow_heap w g _ _ t _ h⟩
theorem ArrAt.rowOther {w : World} {g k : Nat} {zs : List Int} (h : ArrAt w g zs) (hk : g ≠ k) (cs : Array Value) : ArrAt (w.setRow k cs) g zs := by
  obtain ⟨t, h⟩ := h
  exact ⟨t, by rw [setRow_other _ _ _ _ hk]; exact h⟩


theorem info_arr : (Try.prog.info? 39).map (·.size) = some 32 := by kernel_rfl
def zero32 : List Int := List.replicate 32 0
theorem arrV_one (zs : List Int) : (arrV zs).all (·.oneCell') = true := all_oneCell_toArray fun v hv => by
  obtain ⟨x, _, rfl⟩ := List.mem_map.1 hv
  rfl
/-- The whole array is loaded, is stored. -/
theorem ArrAt.loaded {w : World} {g : Nat} {zs : List Int} (h : ArrAt w g zs) (hl : zs.length = 32) :
    (Instr.loadAt 39 (.pointer (some ⟨g, 0, none⟩))).run Try.prog w = .ok (.agg (arrV zs)) w := by
  refine run_loadAt_mid w g 0 39 (zs.map (Value.int .i64)) _ (fun j v hv => ?_) Try.underlying39 rfl (by rw [List.length_map, hl]; exact info_arr)
  have hj : j < zs.length := by have := (List.getElem?_eq_some_iff.1 hv).1; simpa using this
  rw [Nat.zero_add, h.cell hj, ← hv, List.getElem?_map, List.getElem?_eq_getElem hj]
  rfl
theorem ArrAt.stored {w : World} {g : Nat} {old : List Int} (h : ArrAt w g old) (zs : List Int) (ho : old.length = 32) (hl : zs.length = 32) :
    (Instr.storeAt 39 (.pointer (some ⟨g, 0, none⟩)) (.agg (arrV zs))).run Try.prog w = .ok () (w.setRow g (arrV zs)) := by
  obtain ⟨t, h⟩ := h
  simp only [Instr.storeAt, Instr.sureAddr, Sem.run_bind, Sem.run_pure, Result.andThen_ok]
  exact run_storeVar_row w g t _ _ _ h (by rw [arrV_size, hl]; exact info_arr) (by rw [arrV_size, arrV_size, ho, hl]) (arrV_one zs)

theorem below_setRow {B : Nat} {a w : World} (h : Below B a w) {g : Nat} (hg : B ≤ g) (cs : Array Value) : Below B a (w.setRow g cs) :=
  h.trans ⟨rfl, rfl, rfl, by simp [World.setRow], fun k hk => setRow_other w g k cs (by omega)⟩

theorem ArrAt.range {w : World} {g : Nat} {zs : List Int} (h : ArrAt w g zs) : w.rangeAt g 0 (zs.map (Value.int .i64)) := fun j v hv => by
  have hj : j < zs.length := by have := (List.getElem?_eq_some_iff.1 hv).1; simpa using this
  rw [Nat.zero_add, h.cell hj, ← hv, List.getElem?_map, List.getElem?_eq_getElem hj]
  rfl
theorem ArrAt.isThere {w : World} {g : Nat} {zs : List Int} (h : ArrAt w g zs) {n : Nat} (hn : n ≤ zs.length) : w.there g 0 n := fun j hj =>
  ⟨by rw [Nat.zero_add, h.cell (by omega)]; rfl, by rw [Nat.zero_add]; exact h.frozen j⟩
/-- One store of the whole array, in the kit's two words. -/
theorem setCells_row {w : World} {g : Nat} {old : List Int} (h : ArrAt w g old) (zs : List Int) (ho : old.length = 32) (hl : zs.length = 32) : w.setCells g 0 (zs.map (Value.int .i64)) = w.setRow g (arrV zs) := by
  have h1 := h.stored zs ho hl
  have h2 := run_storeAt_mid (P := Try.prog) w g 0 39 (arrV zs) (h.isThere (by rw [arrV_size]; omega)) (by rw [arrV_size, hl]; exact info_arr) (arrV_one zs)
  rw [h1] at h2
  have h3 := (Result.ok.injEq _ _ _ _).mp h2
  rw [h3.2]
  simp [arrV]
theorem ArrAt.cells {w : World} {g : Nat} {old : List Int} (h : ArrAt w g old) (zs : List Int) (ho : old.length = 32) (hl : zs.length = 32) : ArrAt (w.setCells g 0 (zs.map (Value.int .i64))) g zs := by
  rw [setCells_row h zs ho hl]
  exact h.row zs
theorem ArrAt.cellsOther {w : World} {g k : Nat} {zs : List Int} (h : ArrAt w g zs) (hk : g ≠ k) : ∀ (cs : List Value) (o : Nat), ArrAt (w.setCells k o cs) g zs
  | cs, o => by
    induction cs generalizing w o with
    | nil => exact h
    | cons v r ih => exact ih (h.other (p := ⟨k, o, none⟩) hk v) (o + 1)

end Go.Proofs.Ytefecpidccpimaa
