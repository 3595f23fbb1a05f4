/- A writer behind a pointer, as the program keeps it: what its cells hold, where its bytes lie, which blocks are its own; what a call on it leaves alone. -/
import Derived.Test.YtdbgcbbfnjoebaaRcJ
import Derived.Test.YtdbgcbbfnjoebaaMB
import Derived.Deep.AppendLies
namespace Go.Proofs.Ytdbgcbbfnjoebaa
open Go.RowKit

/-- Nothing has turned but blocks of S and new ones; what is in S' was in S or is new. -/
structure Went (S : Nat → Prop) (w : World) (S' : Nat → Prop) (w' : World) : Prop where
  os : w'.os = w.os
  tape : w'.tape = w.tape
  output : w'.output = w.output
  size : w.heap.size ≤ w'.heap.size
  block : ∀ k, k < w.heap.size → ¬ S k → w'.heap[k]? = w.heap[k]?
  sub : ∀ k, S' k → S k ∨ w.heap.size ≤ k

theorem Went.refl (S : Nat → Prop) (w : World) : Went S w S w := ⟨rfl, rfl, rfl, Nat.le_refl _, fun _ _ _ => rfl, fun _ h => .inl h⟩

theorem Went.trans {S S' S'' : Nat → Prop} {a b c : World} (h : Went S a S' b) (k : Went S' b S'' c) : Went S a S'' c :=
  ⟨k.os.trans h.os, k.tape.trans h.tape, k.output.trans h.output, Nat.le_trans h.size k.size,
    fun i hi hn => (k.block i (Nat.lt_of_lt_of_le hi h.size) (fun hs => by rcases h.sub i hs with h1 | h1; exact hn h1; omega)).trans (h.block i hi hn),
    fun i hi => by
      rcases k.sub i hi with h1 | h1
      · exact h.sub i h1
      · exact .inr (Nat.le_trans h.size h1)⟩

theorem Went.drewN {S S' : Nat → Prop} {a b : World} (h : Went S a S' b) (n : Nat) : Went S a S' (b.drewN n) := ⟨h.os, h.tape, h.output, h.size, h.block, h.sub⟩
theorem Went.drew {S S' : Nat → Prop} {a b : World} (h : Went S a S' b) : Went S a S' b.drew := ⟨h.os, h.tape, h.output, h.size, h.block, h.sub⟩

theorem Went.of_but {S : Nat → Prop} {p : Nat} {w w' : World} (h : But p w w') (hp : S p) : Went S w S w' :=
  ⟨h.os, h.tape, h.output, by rw [h.size]; exact Nat.le_refl _, fun k _ hk => h.block k (fun e => hk (e ▸ hp)), fun _ h => .inl h⟩

theorem Went.set {S S' : Nat → Prop} {a b : World} (h : Went S a S' b) {p : Nat} (hp : S' p) (i : Nat) (v : Value) : Went S a S' (b.setCell ⟨p, i, none⟩ v) :=
  h.trans (.of_but ((But.refl p b).set i v) hp)

theorem Went.below {S S' : Nat → Prop} {w w' : World} (h : Went S w S' w') {B : Nat} (hB : ∀ k, S k → B ≤ k) (hs : B ≤ w.heap.size) : Below B w w' :=
  ⟨h.os, h.tape, h.output, h.size, fun k hk => h.block k (by omega) (fun hS => by have := hB k hS; omega)⟩

theorem Went.above {S S' : Nat → Prop} {w w' : World} (h : Went S w S' w') {B : Nat} (hB : ∀ k, S k → B ≤ k) (hs : B ≤ w.heap.size) : ∀ k, S' k → B ≤ k := fun k hk => by
  rcases h.sub k hk with h1 | h1
  · exact hB k h1
  · omega

theorem Went.cell {S S' : Nat → Prop} {w w' : World} (h : Went S w S' w') {x : Addr} {v : Value} (hx : w.cell? x = some v) (hS : ¬ S x.block) : w'.cell? x = some v :=
  (World.cell?_of_block (w := w) (h.block x.block (World.block_lt_of_cell? w _ hx) hS)).trans hx

/-! ### Rows of bytes -/
theorem ownsRow_of_block {w w' : World} {v : Value} {n : Nat} {xs : List Value} {B : Nat} {e : TypeId} {z : Nat} (h : w.ownsRow B e z v n xs) (hb : ∀ k, v.ownBlock = some k → w'.heap[k]? = w.heap[k]?) : w'.ownsRow B e z v n xs := by
  obtain ⟨hl, h⟩ := h
  refine ⟨hl, ?_⟩
  rcases h with h | ⟨g, cap, cur, rfl, hg, hh, hrest⟩
  · exact .inl h
  · exact .inr ⟨g, cap, cur, rfl, hg, (hb g rfl).trans hh, hrest⟩

/-- A slice of bytes that lies in a block of S other than p, or is nil. -/
structure RowOf (S : Nat → Prop) (p : Nat) (w : World) (v : Value) (bs : List Nat) : Prop where
  owns : w.ownsRow 0 5 1 v bs.length (bvals bs)
  mine : ∀ k, v.ownBlock = some k → S k ∧ k ≠ p

theorem RowOf.of_block {S S' : Nat → Prop} {p : Nat} {w w' : World} {v : Value} {bs : List Nat} (h : RowOf S p w v bs) (hb : ∀ k, v.ownBlock = some k → w'.heap[k]? = w.heap[k]?) (hs : ∀ k, v.ownBlock = some k → S' k) : RowOf S' p w' v bs :=
  ⟨ownsRow_of_block h.owns hb, fun k hk => ⟨hs k hk, (h.mine k hk).2⟩⟩

theorem RowOf.form {S : Nat → Prop} {p : Nat} {w : World} {v : Value} {bs : List Nat} (h : RowOf S p w v bs) : ∃ a cap, v = .slice a bs.length cap ∧ (a = none → bs.length = 0 ∧ cap = 0) ∧ ∀ x, a = some x → ∃ g, x = ⟨g, 0, none⟩ ∧ S g ∧ g ≠ p := by
  obtain ⟨_, h1 | ⟨g, cap, cur, hv, _⟩⟩ := h.owns
  · exact ⟨none, 0, by rw [h1.1, h1.2], fun _ => ⟨h1.2, rfl⟩, fun _ h => (by cases h)⟩
  · refine ⟨_, cap, hv, fun h => (by cases h), fun x hx => ?_⟩
    cases hx
    obtain ⟨h1, h2⟩ := h.mine g (by rw [hv]; rfl)
    exact ⟨g, rfl, h1, h2⟩

/-! ### The writer -/
def encF (fv bv : Value) (s : Es) : Nat → Value
  | 0 => fv
  | 1 => .int .i64 s.low
  | 2 => .int .i64 s.rng
  | 3 => bv
  | 4 => .int .i64 s.wait
  | 5 => .int .i64 s.waiting
  | _ => .int .i64 s.cnt

/-- The cells of a writer, its slices named. -/
structure We (S : Nat → Prop) (p : Nat) (fv bv : Value) (s : Es) (w : World) : Prop where
  row : w.rowIs p 52 7 (encF fv bv s)
  home : S p
  lt : ∀ k, S k → k < w.heap.size
  front : RowOf S p w fv s.front
  back : RowOf S p w bv s.back
  apart : ∀ k, fv.ownBlock = some k → bv.ownBlock ≠ some k

/-- At p lies a writer in the state s; the blocks S are its own. -/
def Wd (S : Nat → Prop) (p : Nat) (s : Es) (w : World) : Prop := ∃ fv bv, We S p fv bv s w

theorem lt7 {q : Nat → Prop} (h0 : q 0) (h1 : q 1) (h2 : q 2) (h3 : q 3) (h4 : q 4) (h5 : q 5) (h6 : q 6) : ∀ j, j < 7 → q j
  | 0, _ => h0 | 1, _ => h1 | 2, _ => h2 | 3, _ => h3 | 4, _ => h4 | 5, _ => h5 | 6, _ => h6
  | n + 7, h => absurd h (by omega)

theorem ownBlock_lt {w : World} {B : Nat} {e : TypeId} {z : Nat} {v : Value} {n : Nat} {xs : List Value} (h : w.ownsRow B e z v n xs) {k : Nat} (hk : v.ownBlock = some k) : k < w.heap.size := by
  obtain ⟨_, h1 | ⟨g, cap, cur, hv, _, hh, _⟩⟩ := h
  · rw [h1.1] at hk; cases hk
  · rw [hv] at hk
    cases hk
    exact (Array.getElem?_eq_some_iff.1 hh).1

section
variable {S : Nat → Prop} {p : Nat} {fv bv : Value} {s : Es} {w : World}

theorem We.size (h : We S p fv bv s w) : p < w.heap.size := h.row.lt

/-- What happens elsewhere is nothing to it. -/
theorem We.of_blocks {w' : World} (h : We S p fv bv s w) (hb : ∀ k, S k → w'.heap[k]? = w.heap[k]?) (hs : w.heap.size ≤ w'.heap.size) : We S p fv bv s w' :=
  ⟨h.row.of_block (hb p h.home), h.home, fun k hk => Nat.lt_of_lt_of_le (h.lt k hk) hs, h.front.of_block (fun k hk => hb k (h.front.mine k hk).1) (fun k hk => (h.front.mine k hk).1),
    h.back.of_block (fun k hk => hb k (h.back.mine k hk).1) (fun k hk => (h.back.mine k hk).1), h.apart⟩

theorem Wd.of_blocks {w' : World} (h : Wd S p s w) (hb : ∀ k, S k → w'.heap[k]? = w.heap[k]?) (hs : w.heap.size ≤ w'.heap.size) : Wd S p s w' := by
  obtain ⟨fv, bv, h⟩ := h
  exact ⟨fv, bv, h.of_blocks hb hs⟩

theorem Wd.keep {w' : World} (h : Wd S p s w) (hb : Below w.heap.size w w') : Wd S p s w' := by
  have hl : ∀ k, S k → k < w.heap.size := by obtain ⟨_, _, h⟩ := h; exact h.lt
  exact h.of_blocks (fun k hk => hb.block k (hl k hk)) hb.size

theorem Wd.drewN (h : Wd S p s w) (n : Nat) : Wd S p s (w.drewN n) := h.of_blocks (fun _ _ => rfl) (Nat.le_refl _)
theorem Wd.drew (h : Wd S p s w) : Wd S p s w.drew := h.of_blocks (fun _ _ => rfl) (Nat.le_refl _)

/-- Another writer's steps, another reader's. -/
theorem Wd.went {w' : World} {T T' : Nat → Prop} (h : Wd S p s w) (hw : Went T w T' w') (hd : ∀ k, S k → ¬ T k) : Wd S p s w' := by
  have hl : ∀ k, S k → k < w.heap.size := by obtain ⟨_, _, h⟩ := h; exact h.lt
  exact h.of_blocks (fun k hk => hw.block k (hl k hk) (hd k hk)) hw.size

theorem Wd.but {w' : World} {q : Nat} (h : Wd S p s w) (hb : But q w w') (hq : ¬ S q) : Wd S p s w' :=
  h.of_blocks (fun k hk => hb.block k (fun e => hq (e ▸ hk))) (by rw [hb.size]; exact Nat.le_refl _)

theorem Wd.lt (h : Wd S p s w) : ∀ k, S k → k < w.heap.size := by obtain ⟨_, _, h⟩ := h; exact h.lt
theorem Wd.home (h : Wd S p s w) : S p := by obtain ⟨_, _, h⟩ := h; exact h.home

theorem We.setNum {t : Es} (h : We S p fv bv s w) (i : Nat) (v : Value) (he : ∀ fv bv : Value, ∀ j, j < 7 → (if j = i then v else encF fv bv s j) = encF fv bv t j) (hf : t.front = s.front) (hb : t.back = s.back) :
    We S p fv bv t (w.setCell ⟨p, i, none⟩ v) := by
  have hbut : But p w (w.setCell ⟨p, i, none⟩ v) := (But.refl p w).set i v
  refine ⟨(h.row.set i v).congr (he fv bv), h.home, fun k hk => by rw [hbut.size]; exact h.lt k hk, ?_, ?_, h.apart⟩
  · rw [hf]; exact h.front.of_block (fun k hk => hbut.block k (h.front.mine k hk).2) (fun k hk => (h.front.mine k hk).1)
  · rw [hb]; exact h.back.of_block (fun k hk => hbut.block k (h.back.mine k hk).2) (fun k hk => (h.back.mine k hk).1)

theorem We.setLow (h : We S p fv bv s w) (x : Nat) {v : Int} (hv : v = x) : We S p fv bv { s with low := x } (w.setCell ⟨p, 1, none⟩ (.int .i64 v)) :=
  h.setNum 1 _ (fun _ _ => lt7 rfl (by rw [hv]; rfl) rfl rfl rfl rfl rfl) rfl rfl
theorem We.setRng (h : We S p fv bv s w) (x : Nat) {v : Int} (hv : v = x) : We S p fv bv { s with rng := x } (w.setCell ⟨p, 2, none⟩ (.int .i64 v)) :=
  h.setNum 2 _ (fun _ _ => lt7 rfl rfl (by rw [hv]; rfl) rfl rfl rfl rfl) rfl rfl
theorem We.setWait (h : We S p fv bv s w) (x : Nat) {v : Int} (hv : v = x) : We S p fv bv { s with wait := x } (w.setCell ⟨p, 4, none⟩ (.int .i64 v)) :=
  h.setNum 4 _ (fun _ _ => lt7 rfl rfl rfl rfl (by rw [hv]; rfl) rfl rfl) rfl rfl
theorem We.setWaiting (h : We S p fv bv s w) (x : Nat) {v : Int} (hv : v = x) : We S p fv bv { s with waiting := x } (w.setCell ⟨p, 5, none⟩ (.int .i64 v)) :=
  h.setNum 5 _ (fun _ _ => lt7 rfl rfl rfl rfl rfl (by rw [hv]; rfl) rfl) rfl rfl
theorem We.setCnt (h : We S p fv bv s w) (x : Nat) {v : Int} (hv : v = x) : We S p fv bv { s with cnt := x } (w.setCell ⟨p, 6, none⟩ (.int .i64 v)) :=
  h.setNum 6 _ (fun _ _ => lt7 rfl rfl rfl rfl rfl rfl (by rw [hv]; rfl)) rfl rfl

theorem Wd.setLow (h : Wd S p s w) (x : Nat) {v : Int} (hv : v = x) : Wd S p { s with low := x } (w.setCell ⟨p, 1, none⟩ (.int .i64 v)) := by
  obtain ⟨fv, bv, h⟩ := h; exact ⟨fv, bv, h.setLow x hv⟩
theorem Wd.setRng (h : Wd S p s w) (x : Nat) {v : Int} (hv : v = x) : Wd S p { s with rng := x } (w.setCell ⟨p, 2, none⟩ (.int .i64 v)) := by
  obtain ⟨fv, bv, h⟩ := h; exact ⟨fv, bv, h.setRng x hv⟩
theorem Wd.setWait (h : Wd S p s w) (x : Nat) {v : Int} (hv : v = x) : Wd S p { s with wait := x } (w.setCell ⟨p, 4, none⟩ (.int .i64 v)) := by
  obtain ⟨fv, bv, h⟩ := h; exact ⟨fv, bv, h.setWait x hv⟩
theorem Wd.setWaiting (h : Wd S p s w) (x : Nat) {v : Int} (hv : v = x) : Wd S p { s with waiting := x } (w.setCell ⟨p, 5, none⟩ (.int .i64 v)) := by
  obtain ⟨fv, bv, h⟩ := h; exact ⟨fv, bv, h.setWaiting x hv⟩
theorem Wd.setCnt (h : Wd S p s w) (x : Nat) {v : Int} (hv : v = x) : Wd S p { s with cnt := x } (w.setCell ⟨p, 6, none⟩ (.int .i64 v)) := by
  obtain ⟨fv, bv, h⟩ := h; exact ⟨fv, bv, h.setCnt x hv⟩

/-- The fields that are asked for. -/
theorem We.fields (h : We S p fv bv s w) : w.cell? ⟨p, 0, none⟩ = some fv ∧ w.cell? ⟨p, 1, none⟩ = some (.int .i64 s.low) ∧ w.cell? ⟨p, 2, none⟩ = some (.int .i64 s.rng) ∧ w.cell? ⟨p, 3, none⟩ = some bv ∧
    w.cell? ⟨p, 4, none⟩ = some (.int .i64 s.wait) ∧ w.cell? ⟨p, 5, none⟩ = some (.int .i64 s.waiting) ∧ w.cell? ⟨p, 6, none⟩ = some (.int .i64 s.cnt) ∧ ∀ i, w.frozen? ⟨p, i, none⟩ = false :=
  ⟨h.row.cell (i := 0) (by decide), h.row.cell (i := 1) (by decide), h.row.cell (i := 2) (by decide), h.row.cell (i := 3) (by decide), h.row.cell (i := 4) (by decide), h.row.cell (i := 5) (by decide), h.row.cell (i := 6) (by decide), h.row.frozen⟩

theorem Wd.fields (h : Wd S p s w) : w.cell? ⟨p, 1, none⟩ = some (.int .i64 s.low) ∧ w.cell? ⟨p, 2, none⟩ = some (.int .i64 s.rng) ∧
    w.cell? ⟨p, 4, none⟩ = some (.int .i64 s.wait) ∧ w.cell? ⟨p, 5, none⟩ = some (.int .i64 s.waiting) ∧ w.cell? ⟨p, 6, none⟩ = some (.int .i64 s.cnt) ∧ ∀ i, w.frozen? ⟨p, i, none⟩ = false := by
  obtain ⟨fv, bv, h⟩ := h
  obtain ⟨_, h1, h2, _, h4, h5, h6, h7⟩ := h.fields
  exact ⟨h1, h2, h4, h5, h6, h7⟩

/-- Another slice of bytes from the beginning: in place of the one that was there, or new. -/
theorem We.setFrontRow {w' : World} {fv' : Value} {bs : List Nat} (h : We S p fv bv s w) (hg : w.grownBy w' fv.ownBlock) (ho : w'.ownsRow 0 5 1 fv' bs.length (bvals bs)) (hat : ∀ k, fv'.ownBlock = some k → fv.ownBlock = some k ∨ w.heap.size ≤ k) :
    ∃ S', We S' p fv' bv { s with front := bs } (w'.setCell ⟨p, 0, none⟩ fv') ∧ Went S w S' (w'.setCell ⟨p, 0, none⟩ fv') := by
  have hp : p < w.heap.size := h.size
  have hfp : some p ≠ fv.ownBlock := fun e => (h.front.mine p e.symm).2 rfl
  have hbut : But p w' (w'.setCell ⟨p, 0, none⟩ fv') := (But.refl p w').set 0 fv'
  have hrow : w'.rowIs p 52 7 (encF fv bv s) := h.row.of_block (hg.block p hp hfp)
  have hne : ∀ k, fv'.ownBlock = some k → k ≠ p := fun k hk => by
    rcases hat k hk with h1 | h1
    · exact (h.front.mine k h1).2
    · omega
  have hbk : ∀ k, bv.ownBlock = some k → w'.heap[k]? = w.heap[k]? := fun k hk => hg.block k (h.lt k (h.back.mine k hk).1) (fun e => h.apart k e.symm hk)
  refine ⟨fun k => (S k ∧ k < w.heap.size) ∨ fv'.ownBlock = some k, ⟨(hrow.set 0 fv').congr (lt7 rfl rfl rfl rfl rfl rfl rfl), .inl ⟨h.home, hp⟩, ?_, ?_, ?_, ?_⟩, ?_⟩
  · intro k hk
    rw [hbut.size]
    rcases hk with ⟨_, h2⟩ | h2
    · exact Nat.lt_of_lt_of_le h2 hg.size
    · exact ownBlock_lt ho h2
  · exact ⟨ownsRow_of_block ho fun k hk => hbut.block k (hne k hk), fun k hk => ⟨.inr hk, hne k hk⟩⟩
  · refine h.back.of_block (fun k hk => (hbut.block k (h.back.mine k hk).2).trans (hbk k hk)) (fun k hk => .inl ⟨(h.back.mine k hk).1, h.lt k (h.back.mine k hk).1⟩)
  · intro k hk hb
    rcases hat k hk with h1 | h1
    · exact h.apart k h1 hb
    · have := h.lt k (h.back.mine k hb).1; omega
  · refine ⟨hbut.os.trans hg.os, hbut.tape.trans hg.tape, hbut.output.trans hg.output, by rw [hbut.size]; exact hg.size, fun k hk hS => ?_, fun k hk => ?_⟩
    · rw [hbut.block k (fun e => hS (e ▸ h.home))]
      exact hg.block k hk (fun e => hS (h.front.mine k e.symm).1)
    · rcases hk with ⟨h1, _⟩ | h1
      · exact .inl h1
      · rcases hat k h1 with h2 | h2
        · exact .inl (h.front.mine k h2).1
        · exact .inr h2

theorem We.setBackRow {w' : World} {bv' : Value} {bs : List Nat} (h : We S p fv bv s w) (hg : w.grownBy w' bv.ownBlock) (ho : w'.ownsRow 0 5 1 bv' bs.length (bvals bs)) (hat : ∀ k, bv'.ownBlock = some k → bv.ownBlock = some k ∨ w.heap.size ≤ k) :
    ∃ S', We S' p fv bv' { s with back := bs } (w'.setCell ⟨p, 3, none⟩ bv') ∧ Went S w S' (w'.setCell ⟨p, 3, none⟩ bv') := by
  have hp : p < w.heap.size := h.size
  have hfp : some p ≠ bv.ownBlock := fun e => (h.back.mine p e.symm).2 rfl
  have hbut : But p w' (w'.setCell ⟨p, 3, none⟩ bv') := (But.refl p w').set 3 bv'
  have hrow : w'.rowIs p 52 7 (encF fv bv s) := h.row.of_block (hg.block p hp hfp)
  have hne : ∀ k, bv'.ownBlock = some k → k ≠ p := fun k hk => by
    rcases hat k hk with h1 | h1
    · exact (h.back.mine k h1).2
    · omega
  have hbk : ∀ k, fv.ownBlock = some k → w'.heap[k]? = w.heap[k]? := fun k hk => hg.block k (h.lt k (h.front.mine k hk).1) (fun e => h.apart k hk e.symm)
  refine ⟨fun k => (S k ∧ k < w.heap.size) ∨ bv'.ownBlock = some k, ⟨(hrow.set 3 bv').congr (lt7 rfl rfl rfl rfl rfl rfl rfl), .inl ⟨h.home, hp⟩, ?_, ?_, ?_, ?_⟩, ?_⟩
  · intro k hk
    rw [hbut.size]
    rcases hk with ⟨_, h2⟩ | h2
    · exact Nat.lt_of_lt_of_le h2 hg.size
    · exact ownBlock_lt ho h2
  · refine h.front.of_block (fun k hk => (hbut.block k (h.front.mine k hk).2).trans (hbk k hk)) (fun k hk => .inl ⟨(h.front.mine k hk).1, h.lt k (h.front.mine k hk).1⟩)
  · exact ⟨ownsRow_of_block ho fun k hk => hbut.block k (hne k hk), fun k hk => ⟨.inr hk, hne k hk⟩⟩
  · intro k hf hk
    rcases hat k hk with h1 | h1
    · exact h.apart k hf h1
    · have := h.lt k (h.front.mine k hf).1; omega
  · refine ⟨hbut.os.trans hg.os, hbut.tape.trans hg.tape, hbut.output.trans hg.output, by rw [hbut.size]; exact hg.size, fun k hk hS => ?_, fun k hk => ?_⟩
    · rw [hbut.block k (fun e => hS (e ▸ h.home))]
      exact hg.block k hk (fun e => hS (h.back.mine k e.symm).1)
    · rcases hk with ⟨h1, _⟩ | h1
      · exact .inl h1
      · rcases hat k h1 with h2 | h2
        · exact .inl (h.back.mine k h2).1
        · exact .inr h2

/-- The bytes from the beginning turn where they are. -/
theorem We.frontTurned {w' : World} {bs : List Nat} (h : We S p fv bv s w) {g : Nat} (hg : fv.ownBlock = some g) (hb : But g w w') (ho : w'.ownsRow 0 5 1 fv bs.length (bvals bs)) : We S p fv bv { s with front := bs } w' := by
  have hm := h.front.mine g hg
  refine ⟨?_, h.home, fun k hk => by rw [hb.size]; exact h.lt k hk, ⟨ho, h.front.mine⟩, h.back.of_block (fun k hk => hb.block k (fun e => h.apart g hg (e ▸ hk))) (fun k hk => (h.back.mine k hk).1), h.apart⟩
  exact (h.row.of_block (hb.block p (fun e => hm.2 e.symm))).congr (lt7 rfl rfl rfl rfl rfl rfl rfl)
end

/-! ### A row of bytes as cells -/
/-- The first n cells hold the bytes bs. -/
def Holds (f : Nat → Value) (n : Nat) (bs : List Nat) : Prop := ∀ i, i < n → f i = .int .u8 (byteAt bs i)

theorem cells_of_owned {w : World} {g cap : Nat} {bs : List Nat} (h : w.ownsRow 0 5 1 (.slice (some ⟨g, 0, none⟩) bs.length cap) bs.length (bvals bs)) :
    bs.length ≤ cap ∧ cap ≤ maxLen ∧ ∃ f, w.rowIs g 5 cap f ∧ Holds f bs.length bs := by
  obtain ⟨_, h1 | ⟨g', cap', cur, hv, _, hh, hc, hm, hs, ht⟩⟩ := h
  · cases h1.1
  · cases hv
    refine ⟨hc, hm, fun i => cur.getD i undef, ⟨cur, hh, by omega, fun i hi => by simp [Array.getD, hs, hi]⟩, fun i hi => ?_⟩
    have h1 : (cur.toList.take (bs.length * 1))[i]? = some (.int .u8 (byteAt bs i)) := by
      rw [ht, bvals, List.getElem?_map, byteAt, List.getElem?_eq_getElem hi]; rfl
    rw [Nat.mul_one, List.getElem?_take_of_lt hi] at h1
    have h2 : cur[i]? = some (.int .u8 (byteAt bs i)) := by simpa using h1
    have hlt := (Array.getElem?_eq_some_iff.1 h2).1
    simp [Array.getD, hlt]
    rw [Array.getElem?_eq_getElem hlt] at h2
    simpa using h2

theorem owned_of_cells {w : World} {g cap : Nat} {bs : List Nat} {f : Nat → Value} (hc : bs.length ≤ cap) (hm : cap ≤ maxLen) (h : w.rowIs g 5 cap f) (hf : Holds f bs.length bs) :
    w.ownsRow 0 5 1 (.slice (some ⟨g, 0, none⟩) bs.length cap) bs.length (bvals bs) := by
  obtain ⟨cur, hh, hs, hcc⟩ := h
  refine ⟨by simp [bvals], .inr ⟨g, cap, cur, rfl, Nat.zero_le _, hh, hc, hm, by omega, ?_⟩⟩
  apply List.ext_getElem?
  intro i
  rw [Nat.mul_one]
  rcases Nat.lt_or_ge i bs.length with hi | hi
  · have h1 := hcc i (by omega)
    rw [List.getElem?_take_of_lt hi, bvals, List.getElem?_map, List.getElem?_eq_getElem hi]
    rw [hf i hi, byteAt, List.getElem?_eq_getElem hi] at h1
    simpa using h1
  · rw [List.getElem?_take_eq_none hi, List.getElem?_eq_none (by simpa [bvals] using hi)]

end Go.Proofs.Ytdbgcbbfnjoebaa
