/- The document's own voice in memory: two lists behind a pointer, both the law's own; a third list that grows beside them. -/
import Derived.Test.YtbnkapeahbegaaaSynH
import Derived.Test.YtbnkapeahbegaaaSynJ
namespace Go.Proofs.Ytbnkapeahbegaaa
open Go.RowKit

/-- Nothing that was there has turned but blocks of S. -/
structure Moved (S : Nat → Prop) (w w' : World) : Prop where
  os : w'.os = w.os
  tape : w'.tape = w.tape
  output : w'.output = w.output
  size : w.heap.size ≤ w'.heap.size
  block : ∀ k, k < w.heap.size → ¬ S k → w'.heap[k]? = w.heap[k]?

section
variable {S : Nat → Prop} {a b c w w' : World}
theorem Moved.refl (S : Nat → Prop) (w : World) : Moved S w w := ⟨rfl, rfl, rfl, Nat.le_refl _, fun _ _ _ => rfl⟩
theorem Moved.trans (h : Moved S a b) (k : Moved S b c) : Moved S a c :=
  ⟨k.os.trans h.os, k.tape.trans h.tape, k.output.trans h.output, Nat.le_trans h.size k.size, fun i hi hn => (k.block i (Nat.lt_of_lt_of_le hi h.size) hn).trans (h.block i hi hn)⟩
theorem Moved.of_below (h : Below w.heap.size w w') : Moved S w w' := ⟨h.os, h.tape, h.output, h.size, fun k hk _ => h.block k hk⟩
/-- What happens in blocks of S, or in new ones. -/
theorem Moved.went (h : Moved S a w) (hos : w'.os = w.os) (ht : w'.tape = w.tape) (ho : w'.output = w.output) (hs : w.heap.size ≤ w'.heap.size) (hb : ∀ k, k < a.heap.size → ¬ S k → w'.heap[k]? = w.heap[k]?) : Moved S a w' :=
  ⟨hos.trans h.os, ht.trans h.tape, ho.trans h.output, Nat.le_trans h.size hs, fun k hk hn => (hb k hk hn).trans (h.block k hk hn)⟩
theorem Moved.keep (h : Moved S a w) (hb : Below w.heap.size w w') : Moved S a w' := h.went hb.os hb.tape hb.output hb.size fun k hk _ => hb.block k (Nat.lt_of_lt_of_le hk h.size)
theorem Moved.grown (h : Moved S a w) {row : Option Nat} (hg : w.grownBy w' row) (hr : ∀ k, row = some k → S k ∨ a.heap.size ≤ k) : Moved S a w' :=
  h.went hg.os hg.tape hg.output hg.size fun k hk hn => hg.block k (Nat.lt_of_lt_of_le hk h.size) fun e => by
    rcases hr k e.symm with h1 | h1
    · exact hn h1
    · omega
theorem Moved.set (h : Moved S a w) {p : Addr} (hp : S p.block) (v : Value) : Moved S a (w.setCell p v) :=
  h.went rfl rfl rfl (by show _ ≤ (Array.modify _ _ _).size; rw [Array.size_modify]; exact Nat.le_refl _) fun k _ hn => Below.heap_setCell _ _ _ _ (fun e => hn (e ▸ hp))
theorem Moved.below {B : Nat} (h : Moved S w w') (hB : B ≤ w.heap.size) (hS : ∀ k, S k → B ≤ k) : Below B w w' :=
  ⟨h.os, h.tape, h.output, h.size, fun k hk => h.block k (by omega) (fun hs => by have := hS k hs; omega)⟩
theorem Moved.zs {a0 : Option Addr} {n : Nat} {zs : List Int} (h : Moved S w w') (hz : Zs w a0 n zs) (hp : 0 < n → ∀ x, a0 = some x → ¬ S x.block) : Zs w' a0 n zs :=
  ⟨hz.len, fun h0 => by
    obtain ⟨b, off, e, hb, hc⟩ := hz.at_ h0
    exact ⟨b, off, e, Nat.lt_of_lt_of_le hb h.size, fun i hi => (World.cell?_of_block (w := w) (a := ⟨b, off + i, none⟩) (h.block b hb (hp h0 _ e))).trans (hc i hi)⟩⟩
end

/-- The document's voice at p, its lists, and a third one: the blocks S were its own when w0 stood, what else is its own is new. -/
structure Trio (w0 : World) (S : Nat → Prop) (p : Nat) (v1 v2 v3 : Value) (X Y Z : List Int) (w : World) : Prop where
  moved : Moved S w0 w
  ps : S p
  home : ∃ t, w.heap[p]? = some (.cells #[v1, v2] t (0, 0))
  own1 : w.ownsRow 0 2 1 v1 X.length (X.map (Value.int .i64))
  own2 : w.ownsRow 0 2 1 v2 Y.length (Y.map (Value.int .i64))
  own3 : w.ownsRow 0 2 1 v3 Z.length (Z.map (Value.int .i64))
  in1 : ∀ k, v1.ownBlock = some k → (S k ∨ w0.heap.size ≤ k) ∧ k ≠ p
  in2 : ∀ k, v2.ownBlock = some k → (S k ∨ w0.heap.size ≤ k) ∧ k ≠ p
  in3 : ∀ k, v3.ownBlock = some k → w0.heap.size ≤ k ∧ k ≠ p
  a12 : ∀ k, v1.ownBlock = some k → v2.ownBlock ≠ some k
  a13 : ∀ k, v1.ownBlock = some k → v3.ownBlock ≠ some k
  a23 : ∀ k, v2.ownBlock = some k → v3.ownBlock ≠ some k

theorem ownBlk_lt {w : World} {B : Nat} {e : TypeId} {z : Nat} {v : Value} {n : Nat} {xs : List Value} (h : w.ownsRow B e z v n xs) {k : Nat} (hk : v.ownBlock = some k) : k < w.heap.size := by
  obtain ⟨_, h1 | ⟨g, cap, cur, hv, _, hh, _⟩⟩ := h
  · rw [h1.1] at hk; cases hk
  · rw [hv] at hk
    cases hk
    exact (Array.getElem?_eq_some_iff.1 hh).1
theorem ownsRow_stays {w w' : World} {v : Value} {n : Nat} {xs : List Value} {B : Nat} {e : TypeId} {z : Nat} (h : w.ownsRow B e z v n xs) (hb : ∀ k, v.ownBlock = some k → w'.heap[k]? = w.heap[k]?) : w'.ownsRow B e z v n xs := by
  obtain ⟨hl, h⟩ := h
  refine ⟨hl, ?_⟩
  rcases h with h | ⟨g, cap, cur, rfl, hg, hh, hrest⟩
  · exact .inl h
  · exact .inr ⟨g, cap, cur, rfl, hg, (hb g rfl).trans hh, hrest⟩
theorem grown_since {w w1 w2 : World} {row : Option Nat} (h : Below w.heap.size w w1) (hg : w1.grownBy w2 row) : w.grownBy w2 row :=
  ⟨hg.os.trans h.os, hg.tape.trans h.tape, hg.output.trans h.output, Nat.le_trans h.size hg.size, fun k hk hne => (hg.block k (Nat.lt_of_lt_of_le hk h.size) hne).trans (h.block k hk)⟩
theorem zs_of_own {w : World} {B : Nat} {v : Value} {X : List Int} (h : w.ownsRow B 2 1 v X.length (X.map (Value.int .i64))) : ∃ a cap, v = .slice a X.length cap ∧ X.length ≤ cap ∧ Zs w a X.length X := by
  obtain ⟨_, a, cap, e, hn⟩ := NewRow.of_owned h
  refine ⟨a, cap, e, ?_, Zs.of_new hn rfl⟩
  obtain ⟨_, h1 | ⟨g, cap', cur, hv, _, _, hc, _⟩⟩ := h
  · rw [h1.1] at e
    have : X.length = 0 := h1.2
    omega
  · rw [hv] at e
    cases e
    exact hc

section
variable {w0 w w' : World} {S : Nat → Prop} {p : Nat} {v1 v2 v3 : Value} {X Y Z : List Int}
theorem Trio.plt (h : Trio w0 S p v1 v2 v3 X Y Z w) : p < w.heap.size := by
  obtain ⟨t, ht⟩ := h.home
  exact (Array.getElem?_eq_some_iff.1 ht).1
theorem Trio.of_blocks (h : Trio w0 S p v1 v2 v3 X Y Z w) (hm : Moved S w0 w') (hp : w'.heap[p]? = w.heap[p]?) (h1 : ∀ k, v1.ownBlock = some k → w'.heap[k]? = w.heap[k]?) (h2 : ∀ k, v2.ownBlock = some k → w'.heap[k]? = w.heap[k]?) (h3 : ∀ k, v3.ownBlock = some k → w'.heap[k]? = w.heap[k]?) : Trio w0 S p v1 v2 v3 X Y Z w' :=
  ⟨hm, h.ps, by obtain ⟨t, ht⟩ := h.home; exact ⟨t, hp.trans ht⟩, ownsRow_stays h.own1 h1, ownsRow_stays h.own2 h2, ownsRow_stays h.own3 h3, h.in1, h.in2, h.in3, h.a12, h.a13, h.a23⟩
theorem Trio.keep (h : Trio w0 S p v1 v2 v3 X Y Z w) (hb : Below w.heap.size w w') : Trio w0 S p v1 v2 v3 X Y Z w' :=
  h.of_blocks (h.moved.keep hb) (hb.block p h.plt) (fun k hk => hb.block k (ownBlk_lt h.own1 hk)) (fun k hk => hb.block k (ownBlk_lt h.own2 hk)) (fun k hk => hb.block k (ownBlk_lt h.own3 hk))
theorem Trio.drewN (h : Trio w0 S p v1 v2 v3 X Y Z w) (n : Nat) : Trio w0 S p v1 v2 v3 X Y Z (w.drewN n) := h.keep (below_drewN (Below.refl _ _) n)
theorem Trio.cells (h : Trio w0 S p v1 v2 v3 X Y Z w) : w.cell? ⟨p, 0, none⟩ = some v1 ∧ w.cell? ⟨p, 1, none⟩ = some v2 ∧ w.frozen? ⟨p, 0, none⟩ = false ∧ w.frozen? ⟨p, 1, none⟩ = false := by
  obtain ⟨t, ht⟩ := h.home
  exact ⟨by rw [cell_of_row w p _ _ _ (0, 0) ht]; rfl, by rw [cell_of_row w p _ _ _ (0, 0) ht]; rfl, frozen_of_row w p _ _ _ ht, frozen_of_row w p _ _ _ ht⟩

/-- From another world on. -/
theorem Trio.base (h : Trio w S p v1 v2 (.slice none 0 0) X Y [] w) (hb : Below w.heap.size w w') : Trio w' S p v1 v2 (.slice none 0 0) X Y [] w' := by
  have h' := h.keep hb
  refine ⟨Moved.refl _ _, h'.ps, h'.home, h'.own1, h'.own2, h'.own3, fun k hk => ⟨.inl ?_, (h.in1 k hk).2⟩, fun k hk => ⟨.inl ?_, (h.in2 k hk).2⟩, fun k hk => by simp [Value.ownBlock] at hk, h.a12, h.a13, h.a23⟩
  · rcases (h.in1 k hk).1 with h1 | h1
    · exact h1
    · have := ownBlk_lt h.own1 hk; omega
  · rcases (h.in2 k hk).1 with h1 | h1
    · exact h1
    · have := ownBlk_lt h.own2 hk; omega
theorem Trio.back {u : World} (h : Trio w0 S p v1 v2 v3 X Y Z w) (hb : Below u.heap.size u w0) : Trio u S p v1 v2 v3 X Y Z w := by
  have hs := hb.size
  refine ⟨(Moved.of_below hb).trans h.moved, h.ps, h.home, h.own1, h.own2, h.own3, fun k hk => ⟨?_, (h.in1 k hk).2⟩, fun k hk => ⟨?_, (h.in2 k hk).2⟩, fun k hk => ⟨?_, (h.in3 k hk).2⟩, h.a12, h.a13, h.a23⟩
  · rcases (h.in1 k hk).1 with h1 | h1
    · exact .inl h1
    · exact .inr (by omega)
  · rcases (h.in2 k hk).1 with h1 | h1
    · exact .inl h1
    · exact .inr (by omega)
  · have := (h.in3 k hk).1
    omega
theorem Trio.forms (h : Trio w0 S p v1 v2 v3 X Y Z w) : ∃ a1 c1 a2 c2 a3 c3, v1 = .slice a1 X.length c1 ∧ v2 = .slice a2 Y.length c2 ∧ v3 = .slice a3 Z.length c3 ∧ Zs w a1 X.length X ∧ Zs w a2 Y.length Y ∧ Zs w a3 Z.length Z ∧ X.length ≤ c1 ∧ Y.length ≤ c2 := by
  obtain ⟨a1, c1, e1, k1, z1⟩ := zs_of_own h.own1
  obtain ⟨a2, c2, e2, k2, z2⟩ := zs_of_own h.own2
  obtain ⟨a3, c3, e3, k3, z3⟩ := zs_of_own h.own3
  exact ⟨a1, c1, a2, c2, a3, c3, e1, e2, e3, z1, z2, z3, k1, k2⟩
/-- The third is handed on. -/
theorem Trio.drop (h : Trio w0 S p v1 v2 v3 X Y Z w) : Trio w0 S p v1 v2 (.slice none 0 0) X Y [] w :=
  ⟨h.moved, h.ps, h.home, h.own1, h.own2, World.ownsRow_nil w 0 _ 1, h.in1, h.in2, fun k hk => by simp [Value.ownBlock] at hk, h.a12, fun k _ hk => by simp [Value.ownBlock] at hk, fun k _ hk => by simp [Value.ownBlock] at hk⟩

/-- The third list has one more. -/
theorem Trio.push3 (h : Trio w0 S p v1 v2 v3 X Y Z w) {z : Int} {n' g cap : Nat} (hn : n' = Z.length + 1) (ho : w'.ownsRow 0 2 1 (.slice (some ⟨g, 0, none⟩) n' cap) n' ((Z ++ [z]).map (Value.int .i64))) (hg : w.grownBy w' v3.ownBlock) (hat : v3.ownBlock = some g ∨ w.heap.size ≤ g) :
    Trio w0 S p v1 v2 (.slice (some ⟨g, 0, none⟩) n' cap) X Y (Z ++ [z]) w' := by
  subst hn
  have hk : ∀ k, k < w.heap.size → v3.ownBlock ≠ some k → w'.heap[k]? = w.heap[k]? := fun k hk hn => hg.block k hk (fun e => hn e.symm)
  have hgg : ∀ k, (Value.slice (some ⟨g, 0, none⟩) (Z.length + 1) cap).ownBlock = some k → k = g := fun k hk => by
    have : some g = some k := hk
    cases this; rfl
  refine ⟨h.moved.grown hg (fun k hk => .inr (h.in3 k hk).1), h.ps, ?_, ownsRow_stays h.own1 fun k h1 => hk k (ownBlk_lt h.own1 h1) (h.a13 k h1), ownsRow_stays h.own2 fun k h1 => hk k (ownBlk_lt h.own2 h1) (h.a23 k h1), ?_, h.in1, h.in2, fun k h1 => ?_, h.a12, fun k h1 h2 => ?_, fun k h1 h2 => ?_⟩
  · obtain ⟨t, ht⟩ := h.home
    exact ⟨t, (hk p h.plt (fun e => (h.in3 p e).2 rfl)).trans ht⟩
  · rw [List.length_append]; exact ho
  · obtain rfl := hgg k h1
    rcases hat with e | e
    · exact h.in3 _ e
    · have := h.plt
      have := h.moved.size
      exact ⟨by omega, by omega⟩
  · obtain rfl := hgg k h2
    rcases hat with e | e
    · exact h.a13 _ h1 e
    · have := ownBlk_lt h.own1 h1; omega
  · obtain rfl := hgg k h2
    rcases hat with e | e
    · exact h.a23 _ h1 e
    · have := ownBlk_lt h.own2 h1; omega

/-- The first list has another value: it went to a row of the voice's own, or to new memory. -/
theorem Trio.turn1 (h : Trio w0 S p v1 v2 v3 X Y Z w) {X' : List Int} {n' g cap : Nat} (hn : n' = X'.length) (ho : w'.ownsRow 0 2 1 (.slice (some ⟨g, 0, none⟩) n' cap) n' (X'.map (Value.int .i64))) (hg : w.grownBy w' v1.ownBlock) (hat : v1.ownBlock = some g ∨ w.heap.size ≤ g) :
    Trio w0 S p (.slice (some ⟨g, 0, none⟩) n' cap) v2 v3 X' Y Z (w'.setCell ⟨p, 0, none⟩ (.slice (some ⟨g, 0, none⟩) n' cap)) := by
  subst hn
  have hk : ∀ k, k < w.heap.size → v1.ownBlock ≠ some k → w'.heap[k]? = w.heap[k]? := fun k hk hn => hg.block k hk (fun e => hn e.symm)
  have hgg : ∀ k, (Value.slice (some ⟨g, 0, none⟩) X'.length cap).ownBlock = some k → k = g := fun k hk => by
    have : some g = some k := hk
    cases this; rfl
  have hgp : g ≠ p := by
    rcases hat with e | e
    · exact (h.in1 _ e).2
    · have := h.plt; omega
  have hset : ∀ k, k ≠ p → (w'.setCell ⟨p, 0, none⟩ (.slice (some ⟨g, 0, none⟩) X'.length cap)).heap[k]? = w'.heap[k]? := fun k hk => Below.heap_setCell _ _ _ _ hk
  refine ⟨(h.moved.grown hg (fun k hk => (h.in1 k hk).1)).set (p := ⟨p, 0, none⟩) h.ps _, h.ps, ?_, ownsRow_stays ho fun k h1 => hset k (by rw [hgg k h1]; exact hgp), ownsRow_stays h.own2 fun k h1 => (hset k (h.in2 k h1).2).trans (hk k (ownBlk_lt h.own2 h1) (fun e => h.a12 k e h1)),
    ownsRow_stays h.own3 fun k h1 => (hset k (h.in3 k h1).2).trans (hk k (ownBlk_lt h.own3 h1) (fun e => h.a13 k e h1)), fun k h1 => ?_, h.in2, h.in3, fun k h1 h2 => ?_, fun k h1 h2 => ?_, h.a23⟩
  · obtain ⟨t, ht⟩ := h.home
    exact ⟨t, heap_setCell_same w' p 0 _ t _ ((hk p h.plt (fun e => (h.in1 p e).2 rfl)).trans ht)⟩
  · obtain rfl := hgg k h1
    refine ⟨?_, hgp⟩
    rcases hat with e | e
    · exact (h.in1 _ e).1
    · exact .inr (Nat.le_trans h.moved.size e)
  · obtain rfl := hgg k h1
    rcases hat with e | e
    · exact h.a12 _ e h2
    · have := ownBlk_lt h.own2 h2; omega
  · obtain rfl := hgg k h1
    rcases hat with e | e
    · exact h.a13 _ e h2
    · have := ownBlk_lt h.own3 h2; omega

/-- The second likewise. -/
theorem Trio.turn2 (h : Trio w0 S p v1 v2 v3 X Y Z w) {Y' : List Int} {n' g cap : Nat} (hn : n' = Y'.length) (ho : w'.ownsRow 0 2 1 (.slice (some ⟨g, 0, none⟩) n' cap) n' (Y'.map (Value.int .i64))) (hg : w.grownBy w' v2.ownBlock) (hat : v2.ownBlock = some g ∨ w.heap.size ≤ g) :
    Trio w0 S p v1 (.slice (some ⟨g, 0, none⟩) n' cap) v3 X Y' Z (w'.setCell ⟨p, 1, none⟩ (.slice (some ⟨g, 0, none⟩) n' cap)) := by
  subst hn
  have hk : ∀ k, k < w.heap.size → v2.ownBlock ≠ some k → w'.heap[k]? = w.heap[k]? := fun k hk hn => hg.block k hk (fun e => hn e.symm)
  have hgg : ∀ k, (Value.slice (some ⟨g, 0, none⟩) Y'.length cap).ownBlock = some k → k = g := fun k hk => by
    have : some g = some k := hk
    cases this; rfl
  have hgp : g ≠ p := by
    rcases hat with e | e
    · exact (h.in2 _ e).2
    · have := h.plt; omega
  have hset : ∀ k, k ≠ p → (w'.setCell ⟨p, 1, none⟩ (.slice (some ⟨g, 0, none⟩) Y'.length cap)).heap[k]? = w'.heap[k]? := fun k hk => Below.heap_setCell _ _ _ _ hk
  refine ⟨(h.moved.grown hg (fun k hk => (h.in2 k hk).1)).set (p := ⟨p, 1, none⟩) h.ps _, h.ps, ?_, ownsRow_stays h.own1 fun k h1 => (hset k (h.in1 k h1).2).trans (hk k (ownBlk_lt h.own1 h1) (h.a12 k h1)), ownsRow_stays ho fun k h1 => hset k (by rw [hgg k h1]; exact hgp),
    ownsRow_stays h.own3 fun k h1 => (hset k (h.in3 k h1).2).trans (hk k (ownBlk_lt h.own3 h1) (fun e => h.a23 k e h1)), h.in1, fun k h1 => ?_, h.in3, fun k h1 h2 => ?_, h.a13, fun k h1 h2 => ?_⟩
  · obtain ⟨t, ht⟩ := h.home
    exact ⟨t, heap_setCell_same w' p 1 _ t _ ((hk p h.plt (fun e => (h.in2 p e).2 rfl)).trans ht)⟩
  · obtain rfl := hgg k h1
    refine ⟨?_, hgp⟩
    rcases hat with e | e
    · exact (h.in2 _ e).1
    · exact .inr (Nat.le_trans h.moved.size e)
  · obtain rfl := hgg k h2
    rcases hat with e | e
    · exact h.a12 _ h1 e
    · have := ownBlk_lt h.own1 h1; omega
  · obtain rfl := hgg k h1
    rcases hat with e | e
    · exact h.a23 _ e h2
    · have := ownBlk_lt h.own3 h2; omega
end

theorem zs_own {w : World} {B n c : Nat} {a : Option Addr} {X : List Int} (hn : n = X.length) (h : w.ownsRow B 2 1 (.slice a n c) n (X.map (Value.int .i64))) : Zs w a n X ∧ n ≤ c := by
  subst hn
  obtain ⟨a', cap, e, hc, hz⟩ := zs_of_own h
  cases e
  exact ⟨hz, hc⟩
theorem grown_of_below {w w' : World} (h : Below w.heap.size w w') (row : Option Nat) : w.grownBy w' row := ⟨h.os, h.tape, h.output, h.size, fun k hk _ => h.block k hk⟩
section
variable {w0 w w' : World} {S : Nat → Prop} {p : Nat} {v1 v2 v3 : Value} {X Y Z : List Int}
theorem Trio.home_grown (h : Trio w0 S p v1 v2 v3 X Y Z w) {row : Option Nat} (hg : w.grownBy w' row) (hr : row ≠ some p) : w'.cell? ⟨p, 0, none⟩ = some v1 ∧ w'.cell? ⟨p, 1, none⟩ = some v2 ∧ w'.frozen? ⟨p, 0, none⟩ = false ∧ w'.frozen? ⟨p, 1, none⟩ = false := by
  obtain ⟨t, ht⟩ := h.home
  have ht' := (hg.block p h.plt (fun e => hr e.symm)).trans ht
  exact ⟨by rw [cell_of_row w' p _ _ _ (0, 0) ht']; rfl, by rw [cell_of_row w' p _ _ _ (0, 0) ht']; rfl, frozen_of_row w' p _ _ _ ht', frozen_of_row w' p _ _ _ ht'⟩
theorem Trio.row1 (h : Trio w0 S p v1 v2 v3 X Y Z w) : v1.ownBlock ≠ some p := fun e => (h.in1 p e).2 rfl
theorem Trio.row2 (h : Trio w0 S p v1 v2 v3 X Y Z w) : v2.ownBlock ≠ some p := fun e => (h.in2 p e).2 rfl
theorem Trio.row3 (h : Trio w0 S p v1 v2 v3 X Y Z w) : v3.ownBlock ≠ some p := fun e => (h.in3 p e).2 rfl
theorem Trio.third (h : Trio w0 S p v1 v2 v3 X Y Z w) (hz : 0 < Z.length) : ∃ g c, v3 = .slice (some ⟨g, 0, none⟩) Z.length c ∧ w0.heap.size ≤ g ∧ Zs w (some ⟨g, 0, none⟩) Z.length Z := by
  obtain ⟨_, h1 | ⟨g, cap', cur, hv, hrest⟩⟩ := h.own3
  · have := h1.2
    omega
  · obtain ⟨a, cap, e, _, hzs⟩ := zs_of_own h.own3
    rw [hv] at e
    cases e
    exact ⟨g, cap', hv, (h.in3 g (by rw [hv]; rfl)).1, hzs⟩
end

/-- 'append' of one number onto a row of one's own. -/
theorem wpList_push_num {ops : Array Oper} {rest : List Oper} {o : Oper} {a : Act} {Q : Exit → Act → World → Prop} {w : World} (B m : Nat) (v : Value) (zs : List Int) (y : Int) (hm : zs.length = m) (hown : w.ownsRow B 2 1 v zs.length (zs.map (Value.int .i64))) (hn : m ≤ 100000) (hB : B ≤ w.heap.size)
    (hgd : o.guard = none) (s x : Operand) (ho : o.op = .call { callee := .builtin .append, args := #[s, x], argTypes := #[25, 25] }) (hs : a.eval s = v) (H : Nat) (hx : a.eval x = .slice (some ⟨H, 0, none⟩) 1 1) (hH : H = w.heap.size)
    (h : ∀ g cap w', w'.ownsRow B 2 1 (.slice (some ⟨g, 0, none⟩) (m + 1) cap) (m + 1) ((zs ++ [y]).map (Value.int .i64)) → w.grownBy w' v.ownBlock → (v.ownBlock = some g ∨ w.heap.size ≤ g) → wpList Try.prog ops Q rest (a.put o.dst (.slice (some ⟨g, 0, none⟩) (m + 1) cap)) w') :
    wpList Try.prog ops Q (o :: rest) a (w.alloc (.cells #[.int .i64 y] 2)) := by
  subst hm
  subst hH
  obtain ⟨i, hi, hzz⟩ := Option.map_eq_some_iff.1 info_int64
  simp only [Prod.mk.injEq] at hzz
  obtain ⟨hz, hsz, hby⟩ := hzz
  refine wpList_append_lies _ hgd s x 25 ho B 2 i (.int .i64 0) 1 8 Try.underlying25 hi hz hsz hby rfl (by decide) v zs.length _ hs (hown.alloc _) ⟨w.heap.size, 0, none⟩ 1 1 [.int .i64 y] hx rfl
    (World.news_of_block (heap_alloc_new w _)) (by intro u hu; simp at hu; subst hu; rfl) (by decide) (by unfold maxLen; omega) (by omega) (by simp; omega) _ rfl ?_
  intro g cap w' h4 h5 h6 _
  refine h g cap w' (by simpa using h4) (grown_since ((Below.refl _ w).alloc (Nat.le_refl _) _) h5) ?_
  rcases h6 with h6 | h6
  · exact .inl h6
  · right; rw [h6]; simp

end Go.Proofs.Ytbnkapeahbegaaa
