/- What the law of all that is written keeps beside the writer: the numbers written, and the writings; and what it keeps beside the reader. -/
import Derived.Test.YtinjkffkkmbioaaRencE
import Derived.Deep.AppendLies
import Derived.OwnWalk
namespace Go.Proofs.Ytinjkffkkmbioaa
open Go.RowKit

def aw (y : ActV) : Wr := wrA (avOf y)

/-- The cells of one writing, of many. -/
def actCells (y : ActV) : List Value := [.int .i64 (y.z 0), .int .i64 (y.z 1), .int .i64 (y.z 2), .int .i64 (y.z 3), .slice y.a y.len y.cap]

def actsCells : List ActV → List Value
  | [] => []
  | y :: l => actCells y ++ actsCells l

theorem actsCells_at : ∀ (ys : List ActV) (i : Nat) (y : ActV), ys[i]? = some y → ∀ j, j < 5 → (actsCells ys)[i * 5 + j]? = (actCells y)[j]?
  | [], i, y, h, _, _ => by simp at h
  | x :: ys, 0, y, h, j, hj => by
    have e : x = y := by simpa using h
    subst e
    show (actCells x ++ actsCells ys)[0 * 5 + j]? = _
    rw [Nat.zero_mul, Nat.zero_add, List.getElem?_append_left (by show j < 5; exact hj)]
  | x :: ys, i + 1, y, h, j, hj => by
    have ih := actsCells_at ys i y (by simpa using h) j hj
    show (actCells x ++ actsCells ys)[(i + 1) * 5 + j]? = _
    rw [List.getElem?_append_right (by show 5 ≤ _; omega)]
    show (actsCells ys)[(i + 1) * 5 + j - 5]? = _
    rw [show (i + 1) * 5 + j - 5 = i * 5 + j by omega]
    exact ih

theorem actsCells_snoc : ∀ (ys : List ActV) (y : ActV), actsCells (ys ++ [y]) = actsCells ys ++ actCells y
  | [], y => by show actCells y ++ [] = [] ++ actCells y; simp
  | x :: ys, y => by
    show actCells x ++ actsCells (ys ++ [y]) = (actCells x ++ actsCells ys) ++ actCells y
    rw [actsCells_snoc ys y, List.append_assoc]

theorem info_act : (Try.prog.info? 40).map (fun i => (i.zero, i.size, i.bytes)) = some (some (.agg #[.int .i64 0, .int .i64 0, .int .i64 0, .int .i64 0, .slice none 0 0]), 5, 56) := by kernel_rfl

/-- The two lists that the law makes, beside the writer's blocks S. -/
structure Kept (B : Nat) (S : Nat → Prop) (v1 v2 : Value) (zs : List Int) (ys : List ActV) (w : World) : Prop where
  own1 : w.ownsRow B 3 1 v1 zs.length (zs.map (Value.int .i64))
  own2 : w.ownsRow B 40 5 v2 ys.length (actsCells ys)
  a1 : ∀ k, v1.ownBlock = some k → ¬ S k ∧ v2.ownBlock ≠ some k
  a2 : ∀ k, v2.ownBlock = some k → ¬ S k

theorem Kept.nil (B : Nat) (S : Nat → Prop) (w : World) : Kept B S (.slice none 0 0) (.slice none 0 0) [] [] w :=
  ⟨World.ownsRow_nil w B _ 1, World.ownsRow_nil w B _ 5, fun k hk => by simp [Value.ownBlock] at hk, fun k hk => by simp [Value.ownBlock] at hk⟩

section
variable {B : Nat} {S S' T T' : Nat → Prop} {v1 v2 : Value} {zs : List Int} {ys : List ActV} {w w' : World}

theorem Kept.of_blocks (h : Kept B S v1 v2 zs ys w) (h1 : ∀ k, v1.ownBlock = some k → w'.heap[k]? = w.heap[k]?) (h2 : ∀ k, v2.ownBlock = some k → w'.heap[k]? = w.heap[k]?) : Kept B S v1 v2 zs ys w' :=
  ⟨ownsRow_of_block h.own1 h1, ownsRow_of_block h.own2 h2, h.a1, h.a2⟩

theorem Kept.lt1 (h : Kept B S v1 v2 zs ys w) {k : Nat} (hk : v1.ownBlock = some k) : k < w.heap.size := ownBlock_lt h.own1 hk
theorem Kept.lt2 (h : Kept B S v1 v2 zs ys w) {k : Nat} (hk : v2.ownBlock = some k) : k < w.heap.size := ownBlock_lt h.own2 hk

theorem Kept.keep (h : Kept B S v1 v2 zs ys w) (hb : Below w.heap.size w w') : Kept B S v1 v2 zs ys w' :=
  h.of_blocks (fun k hk => hb.block k (h.lt1 hk)) (fun k hk => hb.block k (h.lt2 hk))

theorem Kept.drewN (h : Kept B S v1 v2 zs ys w) (n : Nat) : Kept B S v1 v2 zs ys (w.drewN n) := h.of_blocks (fun _ _ => rfl) (fun _ _ => rfl)

/-- The writer went on. -/
theorem Kept.wrote (h : Kept B S v1 v2 zs ys w) (hw : Went S w S' w') : Kept B S' v1 v2 zs ys w' := by
  have h0 := h.of_blocks (w' := w') (fun k hk => hw.block k (h.lt1 hk) (h.a1 k hk).1) (fun k hk => hw.block k (h.lt2 hk) (h.a2 k hk))
  refine ⟨h0.own1, h0.own2, fun k hk => ⟨fun hs => ?_, (h.a1 k hk).2⟩, fun k hk hs => ?_⟩
  · rcases hw.sub k hs with h1 | h1
    · exact (h.a1 k hk).1 h1
    · have := h.lt1 hk; omega
  · rcases hw.sub k hs with h1 | h1
    · exact h.a2 k hk h1
    · have := h.lt2 hk; omega

/-- Another went on. -/
theorem Kept.other (h : Kept B S v1 v2 zs ys w) (hw : Went T w T' w') (n1 : ∀ k, v1.ownBlock = some k → ¬ T k) (n2 : ∀ k, v2.ownBlock = some k → ¬ T k) : Kept B S v1 v2 zs ys w' :=
  h.of_blocks (fun k hk => hw.block k (h.lt1 hk) (n1 k hk)) (fun k hk => hw.block k (h.lt2 hk) (n2 k hk))

/-- One number more. -/
theorem Kept.push1 (h : Kept B S v1 v2 zs ys w) (hl : ∀ k, S k → k < w.heap.size) {z : Int} {n' g cap : Nat} (hn : n' = zs.length + 1) (ho : w'.ownsRow B 3 1 (.slice (some ⟨g, 0, none⟩) n' cap) n' ((zs ++ [z]).map (Value.int .i64)))
    (hg : w.grownBy w' v1.ownBlock) (hat : v1.ownBlock = some g ∨ w.heap.size ≤ g) : Kept B S (.slice (some ⟨g, 0, none⟩) n' cap) v2 (zs ++ [z]) ys w' := by
  subst hn
  refine ⟨by rw [List.length_append]; exact ho, ownsRow_of_block h.own2 fun k hk => hg.block k (h.lt2 hk) fun e => (h.a1 k e.symm).2 hk, fun k hk => ?_, h.a2⟩
  obtain rfl : g = k := by simpa [Value.ownBlock] using hk
  rcases hat with h1 | h1
  · exact h.a1 _ h1
  · exact ⟨fun hs => by have := hl _ hs; omega, fun e => by have := h.lt2 e; omega⟩

/-- One writing more. -/
theorem Kept.push2 (h : Kept B S v1 v2 zs ys w) (hl : ∀ k, S k → k < w.heap.size) {y : ActV} {n' g cap : Nat} (hn : n' = ys.length + 1) (ho : w'.ownsRow B 40 5 (.slice (some ⟨g, 0, none⟩) n' cap) n' (actsCells (ys ++ [y])))
    (hg : w.grownBy w' v2.ownBlock) (hat : v2.ownBlock = some g ∨ w.heap.size ≤ g) : Kept B S v1 (.slice (some ⟨g, 0, none⟩) n' cap) zs (ys ++ [y]) w' := by
  subst hn
  refine ⟨ownsRow_of_block h.own1 fun k hk => hg.block k (h.lt1 hk) fun e => (h.a1 k hk).2 e.symm, by rw [List.length_append]; exact ho, fun k hk => ⟨(h.a1 k hk).1, fun e => ?_⟩, fun k hk => ?_⟩
  · obtain rfl : g = k := by simpa [Value.ownBlock] using e
    rcases hat with h1 | h1
    · exact (h.a1 _ hk).2 h1
    · have := h.lt1 hk; omega
  · obtain rfl : g = k := by simpa [Value.ownBlock] using hk
    rcases hat with h1 | h1
    · exact h.a2 _ h1
    · intro hs
      have := hl _ hs; omega
end

/-- The writer is as it was, where a list grew. -/
theorem Wd.grown {S : Nat → Prop} {p : Nat} {s : Es} {w w' : World} {row : Option Nat} (h : Wd S p s w) (hg : w.grownBy w' row) (hr : ∀ k, row = some k → ¬ S k) : Wd S p s w' :=
  h.of_blocks (fun k hk => hg.block k (h.lt k hk) fun e => hr k e.symm hk) hg.size

theorem grown_after {w w1 w2 : World} {row : Option Nat} (h : Below w.heap.size w w1) (hg : w1.grownBy w2 row) : w.grownBy w2 row :=
  ⟨hg.os.trans h.os, hg.tape.trans h.tape, hg.output.trans h.output, Nat.le_trans h.size hg.size, fun k hk hne => (hg.block k (Nat.lt_of_lt_of_le hk h.size) hne).trans (h.block k hk)⟩

/-- 'append' of one number. -/
theorem wpList_push_int {ops : Array Oper} {rest : List Oper} {o : Oper} {a : Act} {Q : Exit → Act → World → Prop} {w : World} (B m : Nat) (v : Value) (zs : List Int) (y : Int) (hm : zs.length = m) (hown : w.ownsRow B 3 1 v zs.length (zs.map (Value.int .i64))) (hn : m ≤ 1000) (hB : B ≤ w.heap.size)
    (hgd : o.guard = none) (s x : Operand) (ho : o.op = .call { callee := .builtin .append, args := #[s, x], argTypes := #[34, 34] }) (hs : a.eval s = v) (hx : a.eval x = .slice (some ⟨w.heap.size, 0, none⟩) 1 1)
    (h : ∀ g cap w', w'.ownsRow B 3 1 (.slice (some ⟨g, 0, none⟩) (m + 1) cap) (m + 1) ((zs ++ [y]).map (Value.int .i64)) → w.grownBy w' v.ownBlock → (v.ownBlock = some g ∨ w.heap.size ≤ g) → wpList Try.prog ops Q rest (a.put o.dst (.slice (some ⟨g, 0, none⟩) (m + 1) cap)) w') :
    wpList Try.prog ops Q (o :: rest) a (w.alloc (.cells #[.int .i64 y] 3)) := by
  subst hm
  obtain ⟨i, hi, hzz⟩ := Option.map_eq_some_iff.1 info_int
  simp only [Prod.mk.injEq] at hzz
  obtain ⟨hz, hsz, hby⟩ := hzz
  refine wpList_append_lies _ hgd s x 34 ho B 3 i (.int .i64 0) 1 8 Try.underlying34 hi hz hsz hby rfl (by decide) v zs.length _ hs (hown.alloc _) ⟨w.heap.size, 0, none⟩ 1 1 [.int .i64 y] hx rfl
    (World.news_of_block (heap_alloc_new w _)) (by intro u hu; simp at hu; subst hu; rfl) (by decide) (by unfold maxLen; omega) (by omega) (by simp; omega) _ rfl ?_
  intro g cap w' h4 h5 h6 _
  refine h g cap w' (by simpa using h4) (grown_after ((Below.refl _ w).alloc (Nat.le_refl _) _) h5) ?_
  rcases h6 with h6 | h6
  · exact .inl h6
  · right; rw [h6]; simp

/-- 'append' of one writing. -/
theorem wpList_push_act {ops : Array Oper} {rest : List Oper} {o : Oper} {a : Act} {Q : Exit → Act → World → Prop} {w : World} (B m : Nat) (v : Value) (ys : List ActV) (y : ActV) (hm : ys.length = m) (hown : w.ownsRow B 40 5 v ys.length (actsCells ys)) (hn : m ≤ 1000) (hB : B ≤ w.heap.size)
    (hgd : o.guard = none) (s x : Operand) (ho : o.op = .call { callee := .builtin .append, args := #[s, x], argTypes := #[37, 37] }) (hs : a.eval s = v) (hx : a.eval x = .slice (some ⟨w.heap.size, 0, none⟩) 1 1) (o0 o1 o2 o3 : Int) (e0 : y.z 0 = o0) (e1 : y.z 1 = o1) (e2 : y.z 2 = o2) (e3 : y.z 3 = o3)
    (h : ∀ g cap w', w'.ownsRow B 40 5 (.slice (some ⟨g, 0, none⟩) (m + 1) cap) (m + 1) (actsCells (ys ++ [y])) → w.grownBy w' v.ownBlock → (v.ownBlock = some g ∨ w.heap.size ≤ g) → wpList Try.prog ops Q rest (a.put o.dst (.slice (some ⟨g, 0, none⟩) (m + 1) cap)) w') :
    wpList Try.prog ops Q (o :: rest) a (w.alloc (.cells #[.int .i64 o0, .int .i64 o1, .int .i64 o2, .int .i64 o3, .slice y.a y.len y.cap] 40)) := by
  subst e0; subst e1; subst e2; subst e3; subst hm
  obtain ⟨i, hi, hzz⟩ := Option.map_eq_some_iff.1 info_act
  simp only [Prod.mk.injEq] at hzz
  obtain ⟨hz, hsz, hby⟩ := hzz
  refine wpList_append_lies _ hgd s x 37 ho B 40 i _ 5 56 Try.underlying37 hi hz hsz hby (by decide +kernel) (by decide) v ys.length _ hs (hown.alloc _) ⟨w.heap.size, 0, none⟩ 1 1 (actCells y) hx rfl
    (World.news_of_block (heap_alloc_new w _)) (by intro u hu; simp [actCells] at hu; rcases hu with rfl | rfl | rfl | rfl | rfl <;> rfl) (by decide) (by unfold maxLen; omega) (by omega) (by simp; omega) _ rfl ?_
  intro g cap w' h4 h5 h6 _
  refine h g cap w' (by rw [actsCells_snoc]; exact h4) (grown_after ((Below.refl _ w).alloc (Nat.le_refl _) _) h5) ?_
  rcases h6 with h6 | h6
  · exact .inl h6
  · right; rw [h6]; simp

/-- What the lists hold. -/
theorem Kept.read {B : Nat} {S : Nat → Prop} {v1 v2 : Value} {zs : List Int} {ys : List ActV} {w : World} (h : Kept B S v1 v2 zs ys w) (hn : zs.length = ys.length) {j : Nat} {z : Int} {y : ActV} (hz : zs[j]? = some z) (hy : ys[j]? = some y) :
    ∃ g1 cap1 g2 cap2, v1 = .slice (some ⟨g1, 0, none⟩) ys.length cap1 ∧ v2 = .slice (some ⟨g2, 0, none⟩) ys.length cap2 ∧ w.cell? ⟨g1, j, none⟩ = some (.int .i64 z) ∧
      w.cell? ⟨g2, j * 5, none⟩ = some (.int .i64 (y.z 0)) ∧ w.cell? ⟨g2, j * 5 + 1, none⟩ = some (.int .i64 (y.z 1)) ∧ w.cell? ⟨g2, j * 5 + 2, none⟩ = some (.int .i64 (y.z 2)) ∧ w.cell? ⟨g2, j * 5 + 3, none⟩ = some (.int .i64 (y.z 3)) ∧ w.cell? ⟨g2, j * 5 + 4, none⟩ = some (.slice y.a y.len y.cap) := by
  have hj : j < ys.length := (List.getElem?_eq_some_iff.1 hy).1
  obtain ⟨g1, cap1, e1, _, _⟩ := h.own1.form (by omega)
  obtain ⟨g2, cap2, e2, _, _⟩ := h.own2.form (by omega)
  have c1 : ∀ i u, (zs.map (Value.int .i64))[i]? = some u → w.cell? ⟨g1, i, none⟩ = some u := fun i u hu => by
    have := h.own1.cells (g := g1) (by rw [e1]; rfl) i u hu
    rw [Addr.add_lit, Nat.zero_add] at this
    exact this
  have c2 : ∀ i u, (actsCells ys)[i]? = some u → w.cell? ⟨g2, i, none⟩ = some u := fun i u hu => by
    have := h.own2.cells (g := g2) (by rw [e2]; rfl) i u hu
    rw [Addr.add_lit, Nat.zero_add] at this
    exact this
  have c3 := actsCells_at ys j y hy
  exact ⟨g1, cap1, g2, cap2, by rw [e1, hn], e2, c1 j _ (by rw [List.getElem?_map, hz]; rfl), c2 _ _ (by have := c3 0 (by decide); rw [Nat.add_zero] at this; rw [this]; rfl), c2 _ _ (by rw [c3 1 (by decide)]; rfl), c2 _ _ (by rw [c3 2 (by decide)]; rfl), c2 _ _ (by rw [c3 3 (by decide)]; rfl), c2 _ _ (by rw [c3 4 (by decide)]; rfl)⟩

/-! ### All that was written so far -/
structure Told (B len : Nat) (vs : Nat → ActV) (p k : Nat) (s : Es) (S : Nat → Prop) (v1 v2 : Value) (ys : List ActV) (w : World) : Prop where
  wd : Wd S p s w
  inv : InvE s
  wrote : Wrote (spansL (ys.map aw) startE) (rawsN (ys.map aw)) (rawsV (ys.map aw)) s
  cnt : s.cnt ≤ 33 + 48 * k
  above : ∀ k, S k → B ≤ k
  kept : Kept B S v1 v2 (ys.map fun y => (aw y).v) ys w
  mem : ∀ y ∈ ys, mayA (avOf y) ∧ ∃ i, i < len ∧ y = vs i
  few : ys.length ≤ k

theorem Told.okW {B len p k : Nat} {vs : Nat → ActV} {s : Es} {S : Nat → Prop} {v1 v2 : Value} {ys : List ActV} {w : World} (h : Told B len vs p k s S v1 v2 ys w) : ∀ x ∈ ys.map aw, okW x := fun x hx => by
  obtain ⟨y, hy, rfl⟩ := List.mem_map.1 hx
  exact okW_of (h.mem y hy).1

theorem Told.wok {B len p k : Nat} {vs : Nat → ActV} {s : Es} {S : Nat → Prop} {v1 v2 : Value} {ys : List ActV} {w : World} (h : Told B len vs p k s S v1 v2 ys w) : WOk s :=
  ⟨h.inv, _, _, _, spansL_ok h.okW startE_ok, h.wrote⟩

/-- One writing more. -/
theorem Told.more {B len p k : Nat} {vs : Nat → ActV} {s : Es} {S S' : Nat → Prop} {v1 v2 v1' v2' : Value} {ys : List ActV} {w w' : World} (h : Told B len vs p k s S v1 v2 ys w) {i : Nat} (hi : i < len) (hm : mayA (avOf (vs i)))
    (hw : Wd S' p (writeA (avOf (vs i)) s) w') (ha : ∀ k, S' k → B ≤ k) (hk : Kept B S' v1' v2' ((ys ++ [vs i]).map fun y => (aw y).v) (ys ++ [vs i]) w') : Told B len vs p (k + 1) (writeA (avOf (vs i)) s) S' v1' v2' (ys ++ [vs i]) w' := by
  have h1 := writeA_wrote hm h.inv (spansL_ok h.okW startE_ok) h.wrote
  refine ⟨hw, writeA_inv hm h.inv, ?_, by have := writeA_cnt _ hm s; have := h.cnt; omega, ha, hk, fun y hy => ?_, by rw [List.length_append]; have := h.few; simp; omega⟩
  · rw [List.map_append]
    show Wrote (spansL (ys.map aw ++ [aw (vs i)]) startE) (rawsN (ys.map aw ++ [aw (vs i)])) (rawsV (ys.map aw ++ [aw (vs i)])) _
    rw [spansL_snoc, rawsN_snoc, rawsV_snoc]
    exact h1
  · rcases List.mem_append.1 hy with h2 | h2
    · exact h.mem y h2
    · obtain rfl : y = vs i := by simpa using h2
      exact ⟨hm, i, hi, rfl⟩

/-- What is refused changes nothing. -/
theorem Told.same {B len p k : Nat} {vs : Nat → ActV} {s : Es} {S S' : Nat → Prop} {v1 v2 : Value} {ys : List ActV} {w w' : World} (h : Told B len vs p k s S v1 v2 ys w) (hw : Wd S' p s w') (ha : ∀ k, S' k → B ≤ k) (hk : Kept B S' v1 v2 (ys.map fun y => (aw y).v) ys w') : Told B len vs p (k + 1) s S' v1 v2 ys w' :=
  ⟨hw, h.inv, h.wrote, by have := h.cnt; omega, ha, hk, h.mem, by have := h.few; omega⟩

/-! ### What is read so far -/
structure Heard (B : Nat) (S : Nat → Prop) (p : Nat) (s : Es) (v1 v2 : Value) (ys : List ActV) (d g : Nat) (bs : List Nat) (F : St) (T : Int) (j : Nat) (st : St) (w : World) : Prop where
  rr : Rr d g bs st w
  inv : Inv st
  nb : st.bad = false
  all : AllRead bs T ((ys.map aw).drop j) st
  fin : afterL bs ((ys.map aw).drop j) st = F
  tell : tellZ st ≤ T
  kept : Kept B S v1 v2 (ys.map fun y => (aw y).v) ys w
  wd : Wd S p s w
  nS : ¬ S d
  n1 : v1.ownBlock ≠ some d
  n2 : v2.ownBlock ≠ some d
  gg : bs ≠ [] → g < w.heap.size

section
variable {B : Nat} {S : Nat → Prop} {p : Nat} {s : Es} {v1 v2 : Value} {ys : List ActV} {d g : Nat} {bs : List Nat} {F : St} {T : Int} {j : Nat} {st : St} {w w' : World}

theorem Heard.cnt (h : Heard B S p s v1 v2 ys d g bs F T j st w) (hT : T ≤ 100000) : st.cnt ≤ 200000 := by
  have h1 := h.tell
  have h2 := lenN_in h.inv.low h.inv.high
  unfold tellZ at h1
  omega

theorem Heard.drop_at {l : List Wr} {j : Nat} {x : Wr} (h : l[j]? = some x) : l.drop j = x :: l.drop (j + 1) := by
  obtain ⟨h1, h2⟩ := List.getElem?_eq_some_iff.1 h
  rw [List.drop_eq_getElem_cons h1, h2]

theorem Heard.one (h : Heard B S p s v1 v2 ys d g bs F T j st w) {y : ActV} (hy : ys[j]? = some y) :
    (readW bs (aw y) st).1 = (aw y).v ∧ (readW bs (aw y) st).2.bad = false ∧ tellZ (readW bs (aw y) st).2 ≤ T ∧ Inv (readW bs (aw y) st).2 ∧
      ∀ w', Rr d g bs (readW bs (aw y) st).2 w' → Went (fun k => k = d) w (fun k => k = d) w' → Heard B S p s v1 v2 ys d g bs F T (j + 1) (readW bs (aw y) st).2 w' := by
  have e := Heard.drop_at (l := ys.map aw) (j := j) (x := aw y) (by rw [List.getElem?_map, hy]; rfl)
  have ha := h.all
  have hf := h.fin
  rw [e] at ha hf
  obtain ⟨a1, a2, a3, a4, a5⟩ := ha
  refine ⟨a1, a3, a4, a2, fun w' hr hw => ⟨hr, a2, a3, a5, hf, a4, ?_, ?_, h.nS, h.n1, h.n2, fun h0 => Nat.lt_of_lt_of_le (h.gg h0) hw.size⟩⟩
  · exact h.kept.other hw (fun k hk e => h.n1 (e ▸ hk)) (fun k hk e => h.n2 (e ▸ hk))
  · exact h.wd.went hw (fun k hk e => h.nS (e ▸ hk))

/-- The next one is read. -/
theorem Heard.reads (h : Heard B S p s v1 v2 ys d g bs F T j st w) (hT : T ≤ 100000) {y : ActV} (hy : ys[j]? = some y) (hx : Asked w (y.z 0) (y.z 1) (y.z 2) (y.z 3) y.a y.len y.cap (y.q.take y.len))
    (hap : ∀ b off, y.a = some ⟨b, off, none⟩ → 0 < y.len → b ≠ d) (hB : B ≤ d) (hs : B ≤ w.heap.size) :
    Calls Try.prog 23 #[.pointer (some ⟨d, 0, none⟩), .agg #[.int .i64 (y.z 0), .int .i64 (y.z 1), .int .i64 (y.z 2), .int .i64 (y.z 3), .slice y.a y.len y.cap], .int .i64 (aw y).v] w fun e w' =>
      e = .returned (.bool true) ∧ Heard B S p s v1 v2 ys d g bs F T (j + 1) (readW bs (aw y) st).2 w' ∧ Below B w w' := by
  obtain ⟨o1, _, _, _, o5⟩ := h.one hy
  have hc := h.cnt hT
  refine (reads_any (y.z 0) (y.z 1) (y.z 2) (y.z 3) (aw y).v y.a y.len y.cap (y.q.take y.len) d g bs st w h.rr h.inv (by omega) h.gg hx hap o1).mono ?_
  rintro e w' ⟨he, hr, hw⟩
  exact ⟨he, o5 w' hr hw, hw.below (fun k hk => by rw [hk]; exact hB) hs⟩

/-- It is never bad. -/
theorem Heard.never (h : Heard B S p s v1 v2 ys d g bs F T j st w) (hT : T ≤ 8 * (bs.length : Int)) (hT2 : T ≤ 100000) :
    Calls Try.prog 24 #[.pointer (some ⟨d, 0, none⟩)] w fun e w' => e = .returned (.bool false) ∧ ∃ k, w' = w.drewN k := by
  have hc := h.cnt hT2
  have e : badB bs st = false := by
    unfold badB
    rw [h.nb, decide_eq_false (by have := h.tell; omega)]
    rfl
  rw [← e]
  exact rbad_any d g bs st w h.rr h.inv (by omega)

/-- Tell at the end. -/
theorem Heard.last (h : Heard B S p s v1 v2 ys d g bs F T j st w) (hj : ys.length ≤ j) (hF : tellZ F = T) (hT : T ≤ 100000) :
    Calls Try.prog 25 #[.pointer (some ⟨d, 0, none⟩)] w fun e w' => e = .returned (.int .i64 T) ∧ ∃ k, w' = w.drewN k := by
  have hc := h.cnt hT
  have e : st = F := by
    have := h.fin
    rw [List.drop_eq_nil_of_le (by rw [List.length_map]; exact hj)] at this
    exact this
  rw [← hF, ← e]
  exact rtell_any d g bs st w h.rr h.inv (by omega)

theorem Heard.drew (h : Heard B S p s v1 v2 ys d g bs F T j st w) : Heard B S p s v1 v2 ys d g bs F T j st w.drew :=
  ⟨h.rr.of_blocks rfl (fun _ => rfl), h.inv, h.nb, h.all, h.fin, h.tell, h.kept.of_blocks (fun _ _ => rfl) (fun _ _ => rfl), h.wd.drew, h.nS, h.n1, h.n2, h.gg⟩

theorem Heard.drewN (h : Heard B S p s v1 v2 ys d g bs F T j st w) (n : Nat) : Heard B S p s v1 v2 ys d g bs F T j st (w.drewN n) :=
  ⟨h.rr.drewN n, h.inv, h.nb, h.all, h.fin, h.tell, h.kept.drewN n, h.wd.drewN n, h.nS, h.n1, h.n2, h.gg⟩
end

end Go.Proofs.Ytinjkffkkmbioaa
