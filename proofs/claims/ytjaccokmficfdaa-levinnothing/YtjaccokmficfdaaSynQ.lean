/- Rows of numbers in a variable's own block, whatever its type: an array by value, a struct of arrays. -/
import Derived.Test.YtjaccokmficfdaaNumA
import Derived.Deep.MidRow
import Derived.Laws.CopyOwn
namespace Go.Proofs.Ytjaccokmficfdaa
open Go.RowKit

def arrV (zs : List Int) : Array Value := (zs.map (Value.int .i64)).toArray
theorem arrV_size (zs : List Int) : (arrV zs).size = zs.length := by unfold arrV; simp
theorem arrV_one (zs : List Int) : (arrV zs).all (·.oneCell') = true := all_oneCell_toArray fun v hv => by
  obtain ⟨x, _, rfl⟩ := List.mem_map.1 hv
  rfl

/-- The variable in block g holds the numbers zs. -/
def ArrAt (w : World) (g : Nat) (zs : List Int) : Prop := ∃ t, w.heap[g]? = some (.cells (arrV zs) t (0, 0))

theorem ArrAt.lt {w : World} {g : Nat} {zs : List Int} (h : ArrAt w g zs) : g < w.heap.size := by
  obtain ⟨t, h⟩ := h
  exact (Array.getElem?_eq_some_iff.1 h).1
theorem ArrAt.of_block {w w' : World} {g : Nat} {zs : List Int} (h : ArrAt w g zs) (hb : w'.heap[g]? = w.heap[g]?) : ArrAt w' g zs := by
  obtain ⟨t, h⟩ := h
  exact ⟨t, hb.trans h⟩
theorem ArrAt.keep {w w' : World} {g : Nat} {zs : List Int} (h : ArrAt w g zs) (hb : Below w.heap.size w w') : ArrAt w' g zs := h.of_block (hb.block g h.lt)
theorem ArrAt.drew {w : World} {g : Nat} {zs : List Int} (h : ArrAt w g zs) : ArrAt w.drew g zs := h
theorem ArrAt.drewN {w : World} {g : Nat} {zs : List Int} (h : ArrAt w g zs) (k : Nat) : ArrAt (w.drewN k) g zs := h.keep (below_drewN (Below.refl _ _) k)
theorem ArrAt.alloc {w : World} {g : Nat} {zs : List Int} (h : ArrAt w g zs) (o : Obj) : ArrAt (w.alloc o) g zs := h.keep ((Below.refl _ _).alloc (Nat.le_refl _) o)
theorem ArrAt.other {w : World} {g : Nat} {zs : List Int} (h : ArrAt w g zs) {p : Addr} (hp : g ≠ p.block) (v : Value) : ArrAt (w.setCell p v) g zs := by
  obtain ⟨t, h⟩ := h
  exact ⟨t, by rw [Below.heap_setCell _ _ _ _ hp]; exact h⟩
theorem ArrAt.cell {w : World} {g : Nat} {zs : List Int} (h : ArrAt w g zs) {i : Nat} (hi : i < zs.length) : w.cell? ⟨g, i, none⟩ = some (.int .i64 (zs[i]?.getD 0)) := by
  obtain ⟨t, h⟩ := h
  have hm : (arrV zs)[i]? = some (.int .i64 (zs[i]?.getD 0)) := map_at zs i hi
  simp [World.cell?, h, hm]
theorem ArrAt.frozen {w : World} {g : Nat} {zs : List Int} (h : ArrAt w g zs) (i : Nat) : w.frozen? ⟨g, i, none⟩ = false := by
  obtain ⟨t, h⟩ := h
  simp [World.frozen?, h]
theorem arrV_set (zs : List Int) (i : Nat) (v : Int) : (arrV zs).setIfInBounds i (.int .i64 v) = arrV (zs.set i v) := by
  unfold arrV
  rw [List.setIfInBounds_toArray, List.map_set]
theorem ArrAt.set {w : World} {g : Nat} {zs : List Int} (h : ArrAt w g zs) (i : Nat) (v : Int) : ArrAt (w.setCell ⟨g, i, none⟩ (.int .i64 v)) g (zs.set i v) := by
  obtain ⟨t, h⟩ := h
  exact ⟨t, by rw [heap_setCell_same w g i _ t _ h, arrV_set]⟩
theorem ArrAt.row {w : World} {g : Nat} {old : List Int} (h : ArrAt w g old) (zs : List Int) : ArrAt (w.setRow g (arrV zs)) g zs := by
  obtain ⟨t, h⟩ := h
  exact ⟨t, setRow_heap w g _ _ t _ h⟩
theorem ArrAt.rowOther {w : World} {g k : Nat} {zs : List Int} (h : ArrAt w g zs) (hk : g ≠ k) (cs : Array Value) : ArrAt (w.setRow k cs) g zs := by
  obtain ⟨t, h⟩ := h
  exact ⟨t, by rw [setRow_other _ _ _ _ hk]; exact h⟩
theorem arrAt_alloc (w : World) (zs : List Int) (t : TypeId) : ArrAt (w.alloc (.cells (arrV zs) t)) w.heap.size zs := ⟨t, heap_alloc_new w _⟩
theorem ArrAt.range {w : World} {g : Nat} {zs : List Int} (h : ArrAt w g zs) : w.rangeAt g 0 (zs.map (Value.int .i64)) := fun j v hv => by
  have hj : j < zs.length := by have := (List.getElem?_eq_some_iff.1 hv).1; simpa using this
  rw [Nat.zero_add, h.cell hj, ← hv, List.getElem?_map, List.getElem?_eq_getElem hj]
  rfl
theorem ArrAt.isThere {w : World} {g : Nat} {zs : List Int} (h : ArrAt w g zs) {n : Nat} (hn : n ≤ zs.length) : w.there g 0 n := fun j hj =>
  ⟨by rw [Nat.zero_add, h.cell (by omega)]; rfl, by rw [Nat.zero_add]; exact h.frozen j⟩
/-- A stretch of it, as a slice. -/
theorem ArrAt.zs {w : World} {g : Nat} {zs : List Int} (h : ArrAt w g zs) (o n : Nat) (hn : o + n ≤ zs.length) : Zs w (some ⟨g, o, none⟩) n ((zs.drop o).take n) :=
  ⟨by rw [List.length_take, List.length_drop]; omega, fun _ => ⟨g, o, rfl, h.lt, fun i hi => by
    rw [h.cell (by omega), List.getElem?_take_of_lt hi, List.getElem?_drop]⟩⟩
theorem arrV_made (n : Nat) : madeCells #[.int .i64 0] n = arrV (List.replicate n 0) := by
  have h := toList_madeCells_one (.int .i64 0) n
  unfold arrV
  rw [List.map_replicate, ← h]
theorem arrAt_made {e : TypeId} (w : World) (n : Nat) : ArrAt (w.alloc (.cells (madeCells #[.int .i64 0] n) e)) w.heap.size (List.replicate n 0) := by
  rw [arrV_made]
  exact arrAt_alloc _ _ _

/-! ### Nothing that was there has turned but one block -/
structure Turn (p : Nat) (w w' : World) : Prop where
  os : w'.os = w.os
  tape : w'.tape = w.tape
  output : w'.output = w.output
  size : w.heap.size ≤ w'.heap.size
  block : ∀ k, k < w.heap.size → k ≠ p → w'.heap[k]? = w.heap[k]?

theorem Turn.refl (p : Nat) (w : World) : Turn p w w := ⟨rfl, rfl, rfl, Nat.le_refl _, fun _ _ _ => rfl⟩
theorem Turn.trans {p : Nat} {a b c : World} (h : Turn p a b) (k : Turn p b c) : Turn p a c :=
  ⟨k.os.trans h.os, k.tape.trans h.tape, k.output.trans h.output, Nat.le_trans h.size k.size, fun i hi hn => (k.block i (Nat.lt_of_lt_of_le hi h.size) hn).trans (h.block i hi hn)⟩
theorem Turn.of_below {p : Nat} {w w' : World} (h : Below w.heap.size w w') : Turn p w w' := ⟨h.os, h.tape, h.output, h.size, fun k hk _ => h.block k hk⟩
theorem Turn.below {p B : Nat} {w w' : World} (h : Turn p w w') (hp : B ≤ p) (hB : B ≤ w.heap.size) : Below B w w' := ⟨h.os, h.tape, h.output, h.size, fun k hk => h.block k (by omega) (by omega)⟩
theorem Turn.drew {p : Nat} {a w : World} (h : Turn p a w) : Turn p a w.drew := ⟨h.os, h.tape, h.output, h.size, h.block⟩
theorem Turn.drewN {p : Nat} {a w : World} (h : Turn p a w) (n : Nat) : Turn p a (w.drewN n) := ⟨h.os, h.tape, h.output, h.size, h.block⟩
theorem Turn.alloc {p : Nat} {a w : World} (h : Turn p a w) (o : Obj) : Turn p a (w.alloc o) := h.trans (.of_below ((Below.refl _ _).alloc (Nat.le_refl _) o))
theorem Turn.row {p : Nat} {a w : World} (h : Turn p a w) (cs : Array Value) : Turn p a (w.setRow p cs) :=
  h.trans ⟨rfl, rfl, rfl, by rw [size_setRow]; exact Nat.le_refl _, fun k _ hk => setRow_other w p k cs hk⟩
theorem Turn.rowNew {p g : Nat} {a w : World} (h : Turn p a w) (hg : a.heap.size ≤ g) (cs : Array Value) : Turn p a (w.setRow g cs) :=
  ⟨h.os, h.tape, h.output, by rw [size_setRow]; exact h.size, fun k hk hn => (setRow_other w g k cs (by omega)).trans (h.block k hk hn)⟩
theorem Turn.setNew {p : Nat} {a w : World} (h : Turn p a w) {x : Addr} (hx : a.heap.size ≤ x.block) (v : Value) : Turn p a (w.setCell x v) :=
  ⟨h.os, h.tape, h.output, by show _ ≤ (Array.modify _ _ _).size; rw [Array.size_modify]; exact h.size, fun k hk hn => (Below.heap_setCell _ _ _ _ (by omega)).trans (h.block k hk hn)⟩
theorem Turn.zs {p : Nat} {w w' : World} (h : Turn p w w') {a : Option Addr} {n : Nat} {zs : List Int} (hz : Zs w a n zs) (hp : 0 < n → ∀ x, a = some x → x.block ≠ p) : Zs w' a n zs :=
  ⟨hz.len, fun h0 => by
    obtain ⟨b, off, e, hb, hc⟩ := hz.at_ h0
    exact ⟨b, off, e, Nat.lt_of_lt_of_le hb h.size, fun i hi => (World.cell?_of_block (w := w) (a := ⟨b, off + i, none⟩) (h.block b hb (hp h0 _ e))).trans (hc i hi)⟩⟩
theorem Turn.arr {p : Nat} {w w' : World} (h : Turn p w w') {g : Nat} {zs : List Int} (hz : ArrAt w g zs) (hp : g ≠ p) : ArrAt w' g zs := hz.of_block (h.block g hz.lt hp)

/-! ### copy onto such a row -/
theorem splice_map {α β : Type} (f : α → β) (L : List α) (o : Nat) (cs : List α) : (splice L o cs).map f = splice (L.map f) o (cs.map f) := by
  unfold splice
  simp
theorem splice_all {α : Type} (L cs : List α) (h : cs.length = L.length) : splice L 0 cs = cs := by
  unfold splice
  rw [List.drop_eq_nil_of_le (by omega)]
  simp
theorem splice_front {α : Type} (A B cs : List α) (h : cs.length = A.length) : splice (A ++ B) 0 cs = cs ++ B := by
  unfold splice
  rw [Nat.zero_add, h, List.drop_left]
  simp
theorem splice_back {α : Type} (A B cs : List α) (n : Nat) (hn : A.length = n) (h : cs.length = B.length) : splice (A ++ B) n cs = A ++ cs := by
  subst hn
  unfold splice
  rw [List.take_left, List.drop_eq_nil_of_le (by rw [List.length_append]; omega)]
  simp

theorem arr_splice (zs xs : List Int) (o : Nat) : ((arrV zs).toList.take o ++ (xs.map (Value.int .i64) ++ (arrV zs).toList.drop (o + (xs.map (Value.int .i64)).length))).toArray = arrV (splice zs o xs) := by
  unfold arrV
  rw [splice_map]
  rfl

section
variable {w : World} {ops : Array Oper} {o : Oper} {a : Act} {Q : Exit → Act → World → Prop}

theorem run_copy_arr (g off dLen dCap : Nat) (sp : Option Addr) (sLen sCap n : Nat) (zs xs : List Int) (T E ty : TypeId) (hT : Try.prog.underlying T = some (.slice E)) (hE : (Try.prog.info? E).map (·.size) = some 1) (hg : ArrAt w g zs) (hn : n = Nat.min sLen dLen) (h0 : 0 < n) (hx : Zs w sp n xs) (hfit : off + n ≤ zs.length) :
    (Builtin.copy_ #[T, T] ty #[.slice (some ⟨g, off, none⟩) dLen dCap, .slice sp sLen sCap]).run Try.prog w = .ok (goInt n) (w.setRow g (arrV (splice zs off xs))) := by
  obtain ⟨t, hg⟩ := hg
  obtain ⟨x, rfl, hc⟩ := zs_adds hx h0
  have hl := hx.len
  have h := run_copy_row (P := Try.prog) w T T ty E g off dLen dCap x sLen sCap (arrV zs) t (xs.map (Value.int .i64)) hT hE hg (by rw [List.length_map, hl, hn])
    (fun j v hv => by
      have hj : j < xs.length := by have := (List.getElem?_eq_some_iff.1 hv).1; simpa using this
      rw [hc j (by omega), ← hv, List.getElem?_map, List.getElem?_eq_getElem hj]
      rfl)
    (by rw [List.length_map, arrV_size, hl]; exact hfit) (fun v hv => by obtain ⟨z, _, rfl⟩ := List.mem_map.1 hv; rfl)
  rw [List.append_assoc, arr_splice, List.length_map, hl] at h
  exact h

theorem wpList_copy_arr {rest : List Oper} (g off dLen dCap : Nat) (sp : Option Addr) (sLen sCap n : Nat) (zs xs : List Int) (T E : TypeId) (hT : Try.prog.underlying T = some (.slice E)) (hE : (Try.prog.info? E).map (·.size) = some 1) (hg : ArrAt w g zs) (hn : n = Nat.min sLen dLen) (h0 : 0 < n) (hx : Zs w sp n xs) (hfit : off + n ≤ zs.length)
    (hgd : o.guard = none) (d s : Operand) (ho : o.op = .call { callee := .builtin .copy, args := #[d, s], argTypes := #[T, T] }) (hd : a.eval d = .slice (some ⟨g, off, none⟩) dLen dCap) (hs : a.eval s = .slice sp sLen sCap)
    (h : wpList Try.prog ops Q rest (a.put o.dst (goInt n)) (w.setRow g (arrV (splice zs off xs)))) : wpList Try.prog ops Q (o :: rest) a w := by
  refine wpList_plain hgd fun K hK => ?_
  have hrun := run_copy_arr g off dLen dCap sp sLen sCap n zs xs T E o.type hT hE hg hn h0 hx hfit
  unfold Oper.wp
  simp [execOp, ho, resolve, invoke, builtin, hd, hs, hrun, Result.andThen]
  exact hK _ _ h

theorem wp_copy_arr {K : Act → World → Prop} (g off dLen dCap : Nat) (sp : Option Addr) (sLen sCap n : Nat) (zs xs : List Int) (T E : TypeId) (hT : Try.prog.underlying T = some (.slice E)) (hE : (Try.prog.info? E).map (·.size) = some 1) (hg : ArrAt w g zs) (hn : n = Nat.min sLen dLen) (h0 : 0 < n) (hx : Zs w sp n xs) (hfit : off + n ≤ zs.length)
    (d s : Operand) (ho : o.op = .call { callee := .builtin .copy, args := #[d, s], argTypes := #[T, T] }) (hd : a.eval d = .slice (some ⟨g, off, none⟩) dLen dCap) (hs : a.eval s = .slice sp sLen sCap)
    (h : K (a.put o.dst (goInt n)) (w.setRow g (arrV (splice zs off xs)))) : Oper.wp Try.prog o a w K Q := by
  have hrun := run_copy_arr g off dLen dCap sp sLen sCap n zs xs T E o.type hT hE hg hn h0 hx hfit
  unfold Oper.wp
  simp [execOp, ho, resolve, invoke, builtin, hd, hs, hrun, Result.andThen]
  exact h

theorem step_copy_arr {K : Act → World → Prop} {E' : Prop} (g off dLen dCap : Nat) (sp : Option Addr) (sLen sCap n : Nat) (zs xs : List Int) (T E : TypeId) (hT : Try.prog.underlying T = some (.slice E)) (hE : (Try.prog.info? E).map (·.size) = some 1) (hg : ArrAt w g zs) (hn : n = Nat.min sLen dLen) (h0 : 0 < n) (hx : Zs w sp n xs) (hfit : off + n ≤ zs.length)
    (hgd : o.guard = none) (d s : Operand) (ho : o.op = .call { callee := .builtin .copy, args := #[d, s], argTypes := #[T, T] }) (hd : a.eval d = .slice (some ⟨g, off, none⟩) dLen dCap) (hs : a.eval s = .slice sp sLen sCap)
    (h : K (a.put o.dst (goInt n)) (w.setRow g (arrV (splice zs off xs)))) : if Region.wanted o (yielded ops a.tmps) = true then Oper.wp Try.prog o a w K Q else E' := by
  have hw : Region.wanted o (yielded ops a.tmps) = true := by simp [Region.wanted, hgd]
  rw [if_pos hw]
  have hrun := run_copy_arr g off dLen dCap sp sLen sCap n zs xs T E o.type hT hE hg hn h0 hx hfit
  unfold Oper.wp
  simp [execOp, ho, resolve, invoke, builtin, hd, hs, hrun, Result.andThen]
  exact h
end

theorem elem_numbers : Try.prog.underlying 23 = some (.slice (Try.prog.elem 23)) := by kernel_rfl
theorem size_numbers (W : World) : (sizeOf (Try.prog.elem 23)).run Try.prog W = .ok 1 W := by kernel_rfl

/-- 'l[lo:]', lo below the end. -/
theorem slice_from (g off n cap lo z c : Nat) (h2 : lo ≤ n) (hz : z = n - lo) (hc : c = cap - lo) (hlt : lo < cap) : (∀ W, (Instr.slice 23 (.slice (some ⟨g, off, none⟩) n cap) (some (.int .i64 (lo : Int))) none none).run Try.prog W = .ok (.slice (some ⟨g, off + lo, none⟩) z c) W) ∧
    ∀ W, (Instr.sliceAt 23 (.slice (some ⟨g, off, none⟩) n cap) (some (.int .i64 (lo : Int))) none none).run Try.prog W = .ok (.slice (some ⟨g, off + lo, none⟩) z c) W := by
  have hr : ∀ W, (Instr.slice 23 (.slice (some ⟨g, off, none⟩) n cap) (some (.int .i64 (lo : Int))) none none).run Try.prog W = .ok (.slice (some ⟨g, off + lo, none⟩) z c) W := fun W => by
    rw [run_slice_l (P := Try.prog) (w := W) 23 (some ⟨g, off, none⟩) n cap elem_numbers .i64 lo (by omega) (by omega), size_numbers]
    show Result.ok (sliced _ _ _ _ 1) W = _
    unfold sliced
    rw [Int.toNat_natCast, hz, hc, if_neg (by omega)]
    simp [Addr.add]
  exact ⟨hr, fun W => by rw [run_sliceAt_slice (P := Try.prog) (w := W) (h := elem_numbers)]; exact hr W⟩

end Go.Proofs.Ytjaccokmficfdaa
