/- A list of numbers that a law grows itself, beside the writer. -/
import Derived.Test.YtnmfbjpbhghgaaaDoorGainN
import Derived.Test.YtnmfbjpbhghgaaaDoorGainK
import Derived.Deep.AppendLies
import Derived.OwnWalk
namespace Go.Proofs.YtnmfbjpbhghgaaaDoor
open Go.RowKit

structure Kept1 (B : Nat) (S : Nat → Prop) (v : Value) (zs : List Int) (w : World) : Prop where
  own : w.ownsRow B 3 1 v zs.length (zs.map (Value.int .i64))
  far : ∀ k, v.ownBlock = some k → ¬ S k

theorem Kept1.nil (B : Nat) (S : Nat → Prop) (w : World) : Kept1 B S (.slice none 0 0) [] w :=
  ⟨World.ownsRow_nil w B _ 1, fun k hk => by simp [Value.ownBlock] at hk⟩

section
variable {B : Nat} {S S' T T' : Nat → Prop} {v : Value} {zs : List Int} {w w' : World}

theorem Kept1.of_blocks (h : Kept1 B S v zs w) (h1 : ∀ k, v.ownBlock = some k → w'.heap[k]? = w.heap[k]?) : Kept1 B S v zs w' := ⟨ownsRow_of_block h.own h1, h.far⟩
theorem Kept1.lt (h : Kept1 B S v zs w) {k : Nat} (hk : v.ownBlock = some k) : k < w.heap.size := ownBlock_lt h.own hk
theorem Kept1.keep (h : Kept1 B S v zs w) (hb : Below w.heap.size w w') : Kept1 B S v zs w' := h.of_blocks (fun k hk => hb.block k (h.lt hk))
theorem Kept1.drewN (h : Kept1 B S v zs w) (n : Nat) : Kept1 B S v zs (w.drewN n) := h.of_blocks (fun _ _ => rfl)
theorem Kept1.drew (h : Kept1 B S v zs w) : Kept1 B S v zs w.drew := h.of_blocks (fun _ _ => rfl)

/-- The writer went on. -/
theorem Kept1.wrote (h : Kept1 B S v zs w) (hw : Went S w S' w') : Kept1 B S' v zs w' := by
  refine ⟨ownsRow_of_block h.own fun k hk => hw.block k (h.lt hk) (h.far k hk), fun k hk hs => ?_⟩
  rcases hw.sub k hs with h1 | h1
  · exact h.far k hk h1
  · have := h.lt hk; omega

/-- Another went on. -/
theorem Kept1.other (h : Kept1 B S v zs w) (hw : Went T w T' w') (n1 : ∀ k, v.ownBlock = some k → ¬ T k) : Kept1 B S v zs w' := h.of_blocks (fun k hk => hw.block k (h.lt hk) (n1 k hk))

/-- Kept1 number more. -/
theorem Kept1.push1 (h : Kept1 B S v zs w) (hl : ∀ k, S k → k < w.heap.size) {z : Int} {n' g cap : Nat} (hn : n' = zs.length + 1) (ho : w'.ownsRow B 3 1 (.slice (some ⟨g, 0, none⟩) n' cap) n' ((zs ++ [z]).map (Value.int .i64)))
    (hat : v.ownBlock = some g ∨ w.heap.size ≤ g) : Kept1 B S (.slice (some ⟨g, 0, none⟩) n' cap) (zs ++ [z]) w' := by
  subst hn
  refine ⟨by rw [List.length_append]; exact ho, fun k hk => ?_⟩
  obtain rfl : g = k := by simpa [Value.ownBlock] using hk
  rcases hat with h1 | h1
  · exact h.far _ h1
  · intro hs
    have := hl _ hs; omega

/-- What it holds. -/
theorem Kept1.read (h : Kept1 B S v zs w) {j : Nat} {z : Int} (hz : zs[j]? = some z) : ∃ g cap, v = .slice (some ⟨g, 0, none⟩) zs.length cap ∧ w.cell? ⟨g, j, none⟩ = some (.int .i64 z) := by
  have hj : j < zs.length := (List.getElem?_eq_some_iff.1 hz).1
  obtain ⟨g, cap, e, _, _⟩ := h.own.form (by omega)
  refine ⟨g, cap, e, ?_⟩
  have := h.own.cells (g := g) (by rw [e]; rfl) j (.int .i64 z) (by rw [List.getElem?_map, hz]; rfl)
  rw [Addr.add_lit, Nat.zero_add] at this
  exact this
end

/-- The writer is as it was, where a list grew. -/
theorem Wd.grown {S : Nat → Prop} {p : Nat} {s : Es} {w w' : World} {row : Option Nat} (h : Wd S p s w) (hg : w.grownBy w' row) (hr : ∀ k, row = some k → ¬ S k) : Wd S p s w' :=
  h.of_blocks (fun k hk => hg.block k (h.lt k hk) fun e => hr k e.symm hk) hg.size

theorem grown_after {w w1 w2 : World} {row : Option Nat} (h : Below w.heap.size w w1) (hg : w1.grownBy w2 row) : w.grownBy w2 row :=
  ⟨hg.os.trans h.os, hg.tape.trans h.tape, hg.output.trans h.output, Nat.le_trans h.size hg.size, fun k hk hne => (hg.block k (Nat.lt_of_lt_of_le hk h.size) hne).trans (h.block k hk)⟩

/-- 'append' of one number. -/
theorem wpList_push_int {ops : Array Oper} {rest : List Oper} {o : Oper} {a : Act} {Q : Exit → Act → World → Prop} {w : World} (B m : Nat) (v : Value) (zs : List Int) (y : Int) (hm : zs.length = m) (hown : w.ownsRow B 3 1 v zs.length (zs.map (Value.int .i64))) (hn : m ≤ 1000) (hB : B ≤ w.heap.size)
    (hgd : o.guard = none) (s x : Operand) (ho : o.op = .call { callee := .builtin .append, args := #[s, x], argTypes := #[41, 41] }) (hs : a.eval s = v) (hx : a.eval x = .slice (some ⟨w.heap.size, 0, none⟩) 1 1)
    (h : ∀ g cap w', w'.ownsRow B 3 1 (.slice (some ⟨g, 0, none⟩) (m + 1) cap) (m + 1) ((zs ++ [y]).map (Value.int .i64)) → w.grownBy w' v.ownBlock → (v.ownBlock = some g ∨ w.heap.size ≤ g) → wpList Tryd.prog ops Q rest (a.put o.dst (.slice (some ⟨g, 0, none⟩) (m + 1) cap)) w') :
    wpList Tryd.prog ops Q (o :: rest) a (w.alloc (.cells #[.int .i64 y] 3)) := by
  subst hm
  obtain ⟨i, hi, hzz⟩ := Option.map_eq_some_iff.1 info_int
  simp only [Prod.mk.injEq] at hzz
  obtain ⟨hz, hsz, hby⟩ := hzz
  refine wpList_append_lies _ hgd s x 41 ho B 3 i (.int .i64 0) 1 8 Tryd.underlying41 hi hz hsz hby rfl (by decide) v zs.length _ hs (hown.alloc _) ⟨w.heap.size, 0, none⟩ 1 1 [.int .i64 y] hx rfl
    (World.news_of_block (heap_alloc_new w _)) (by intro u hu; simp at hu; subst hu; rfl) (by decide) (by unfold maxLen; omega) (by omega) (by simp; omega) _ rfl ?_
  intro g cap w' h4 h5 h6 _
  refine h g cap w' (by simpa using h4) (grown_after ((Below.refl _ w).alloc (Nat.le_refl _) _) h5) ?_
  rcases h6 with h6 | h6
  · exact .inl h6
  · right; rw [h6]; simp

end Go.Proofs.YtnmfbjpbhghgaaaDoor
