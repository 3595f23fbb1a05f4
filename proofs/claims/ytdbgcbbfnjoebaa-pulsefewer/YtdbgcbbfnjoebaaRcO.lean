/- A reader behind a pointer, as the program and as the document's own answer keep it: what its cells hold, where its bytes lie; and what a call on it leaves alone. -/
import Derived.Test.YtdbgcbbfnjoebaaMB
import Derived.Test.YtdbgcbbfnjoebaaActs
import Derived.Test.YtdbgcbbfnjoebaaBitsI
import Derived.Deep.OwnRows
import Derived.Deep.LoopGhost
import Derived.Deep.QuietTactic
import Derived.BigQuiet
import Derived.Deep.RegionWith
namespace Go.Proofs.Ytdbgcbbfnjoebaa
open Go.RowKit

/-- Nothing has turned but the block p, and nothing is new. -/
structure But (p : Nat) (w w' : World) : Prop where
  os : w'.os = w.os
  tape : w'.tape = w.tape
  output : w'.output = w.output
  size : w'.heap.size = w.heap.size
  block : ∀ k, k ≠ p → w'.heap[k]? = w.heap[k]?

theorem But.refl (p : Nat) (w : World) : But p w w := ⟨rfl, rfl, rfl, rfl, fun _ _ => rfl⟩

theorem But.trans {p : Nat} {a b c : World} (h : But p a b) (k : But p b c) : But p a c :=
  ⟨k.os.trans h.os, k.tape.trans h.tape, k.output.trans h.output, k.size.trans h.size, fun i hi => (k.block i hi).trans (h.block i hi)⟩

theorem But.drew {p : Nat} {a w : World} (h : But p a w) : But p a w.drew := ⟨h.os, h.tape, h.output, h.size, h.block⟩

theorem But.drewN {p : Nat} {a w : World} (h : But p a w) (n : Nat) : But p a (w.drewN n) := ⟨h.os, h.tape, h.output, h.size, h.block⟩

theorem But.set {p : Nat} {a w : World} (h : But p a w) (i : Nat) (v : Value) : But p a (w.setCell ⟨p, i, none⟩ v) :=
  h.trans ⟨rfl, rfl, rfl, by simp [World.setCell], fun k hk => Below.heap_setCell _ _ _ _ hk⟩

theorem But.below {p B : Nat} {w w' : World} (h : But p w w') (hB : B ≤ p) : Below B w w' :=
  ⟨h.os, h.tape, h.output, by rw [h.size]; exact Nat.le_refl _, fun k hk => h.block k (by omega)⟩

theorem But.cell {p : Nat} {w w' : World} (h : But p w w') {a : Addr} (ha : a.block ≠ p) : w'.cell? a = w.cell? a := World.cell?_of_block (w := w) (h.block a.block ha)

theorem But.frozen {p : Nat} {w w' : World} (h : But p w w') {a : Addr} (ha : a.block ≠ p) : w'.frozen? a = w.frozen? a := World.frozen?_of_block (w := w) (h.block a.block ha)

theorem Below.drewN {B : Nat} {a w : World} (h : Below B a w) (n : Nat) : Below B a (w.drewN n) := ⟨h.os, h.tape, h.output, h.size, h.block⟩

/-- The bytes that a reader reads: n cells of the block g. -/
def BytesIn (w : World) (g : Nat) (a : Option Addr) (n : Nat) (bs : List Nat) : Prop :=
  bs.length = n ∧ Bytes bs ∧ (0 < n → ∃ o, a = some ⟨g, o, none⟩ ∧ ∀ i, i < n → w.cell? ⟨g, o + i, none⟩ = some (.int .u8 (byteAt bs i)))

theorem BytesIn.of_block {w w' : World} {g : Nat} {a : Option Addr} {n : Nat} {bs : List Nat} (h : BytesIn w g a n bs) (e : 0 < n → w'.heap[g]? = w.heap[g]?) : BytesIn w' g a n bs := by
  obtain ⟨h1, h2, h3⟩ := h
  refine ⟨h1, h2, fun h0 => ?_⟩
  obtain ⟨o, ha, hc⟩ := h3 h0
  exact ⟨o, ha, fun i hi => (World.cell?_of_block (w := w) (w' := w') (a := ⟨g, o + i, none⟩) (e h0)).trans (hc i hi)⟩

theorem BytesIn.lt {w : World} {g : Nat} {a : Option Addr} {n : Nat} {bs : List Nat} (h : BytesIn w g a n bs) (h0 : 0 < n) : g < w.heap.size := by
  obtain ⟨o, _, hc⟩ := h.2.2 h0
  exact World.block_lt_of_cell? w _ (hc 0 h0)

/-! ### The program's reader -/
def decF (a : Option Addr) (n cap : Nat) (s : St) (back wait waiting : Nat) : Nat → Value
  | 0 => .slice a n cap
  | 1 => .int .i64 s.rng
  | 2 => .int .i64 s.val
  | 3 => .int .i64 s.last
  | 4 => .int .i64 s.front
  | 5 => .int .i64 back
  | 6 => .int .i64 wait
  | 7 => .int .i64 waiting
  | 8 => .int .i64 s.cnt
  | _ => .bool s.bad

/-- What waits from the end. -/
structure Waits (bs : List Nat) (raw back wait waiting : Nat) : Prop where
  wait : wait = bitsN bs raw waiting
  back : 8 * back = raw + waiting
  few : waiting < 8

/-- At p lies a reader of the bytes bs (they lie in the block g), in the state s. -/
def Rd (p g : Nat) (bs : List Nat) (s : St) (w : World) : Prop :=
  ∃ a n cap back wait waiting, w.rowIs p 50 10 (decF a n cap s back wait waiting) ∧ BytesIn w g a n bs ∧ (0 < n → g ≠ p) ∧ n ≤ 140737488351232 ∧ Waits bs s.raw back wait waiting

theorem Rd.lt {p g : Nat} {bs : List Nat} {s : St} {w : World} (h : Rd p g bs s w) : p < w.heap.size := by
  obtain ⟨_, _, _, _, _, _, h, _⟩ := h
  exact h.lt

theorem Rd.bytes {p g : Nat} {bs : List Nat} {s : St} {w : World} (h : Rd p g bs s w) : Bytes bs := by
  obtain ⟨_, _, _, _, _, _, _, h, _⟩ := h
  exact h.2.1

theorem Rd.drew {p g : Nat} {bs : List Nat} {s : St} {w : World} (h : Rd p g bs s w) : Rd p g bs s w.drew := h
theorem Rd.drewN {p g : Nat} {bs : List Nat} {s : St} {w : World} (h : Rd p g bs s w) (n : Nat) : Rd p g bs s (w.drewN n) := h

/-- What happens elsewhere is nothing to it. -/
theorem Rd.of_blocks {p g : Nat} {bs : List Nat} {s : St} {w w' : World} (h : Rd p g bs s w) (hp : w'.heap[p]? = w.heap[p]?) (hg : bs ≠ [] → w'.heap[g]? = w.heap[g]?) : Rd p g bs s w' := by
  obtain ⟨a, n, cap, back, wait, waiting, h1, h2, h3, h4, h5⟩ := h
  exact ⟨a, n, cap, back, wait, waiting, h1.of_block hp, h2.of_block (fun h0 => hg (by intro e; rw [e] at h2; have := h2.1; simp at this; omega)), h3, h4, h5⟩

theorem Rd.gt {p g : Nat} {bs : List Nat} {s : St} {w : World} (h : Rd p g bs s w) (h0 : bs ≠ []) : g < w.heap.size := by
  obtain ⟨a, n, cap, back, wait, waiting, _, h2, _⟩ := h
  refine h2.lt ?_
  have := h2.1
  rcases Nat.eq_zero_or_pos n with e | e
  · exact absurd (List.eq_nil_of_length_eq_zero (by omega)) h0
  · exact e

theorem Rd.below {p g B : Nat} {bs : List Nat} {s : St} {w w' : World} (h : Rd p g bs s w) (hb : Below B w w') (hp : p < B) (hg : bs ≠ [] → g < B) : Rd p g bs s w' :=
  h.of_blocks (hb.block p hp) (fun h0 => hb.block g (hg h0))

theorem Rd.keep {p g : Nat} {bs : List Nat} {s : St} {w w' : World} (h : Rd p g bs s w) (hb : Below w.heap.size w w') : Rd p g bs s w' :=
  h.of_blocks (hb.block p h.lt) (fun h0 => hb.block g (h.gt h0))

theorem Rd.but {p g q : Nat} {bs : List Nat} {s : St} {w w' : World} (h : Rd p g bs s w) (hb : But q w w') (hp : p ≠ q) (hg : g ≠ q) : Rd p g bs s w' :=
  h.of_blocks (hb.block p hp) (fun _ => hb.block g hg)

/-- A store into one of its cells. -/
theorem Rd.set {p g : Nat} {bs : List Nat} {s t : St} {w : World} (h : Rd p g bs s w) (i : Nat) (v : Value)
    (he : ∀ a n cap back wait waiting j, j < 10 → (if j = i then v else decF a n cap s back wait waiting j) = decF a n cap t back wait waiting j) (hr : t.raw = s.raw) : Rd p g bs t (w.setCell ⟨p, i, none⟩ v) := by
  obtain ⟨a, n, cap, back, wait, waiting, h1, h2, h3, h4, h5⟩ := h
  refine ⟨a, n, cap, back, wait, waiting, (h1.set i v).congr (he _ _ _ _ _ _), h2.of_block (fun h0 => Below.heap_setCell _ _ _ _ (h3 h0)), h3, h4, ?_⟩
  rw [hr]; exact h5

theorem lt10 {q : Nat → Prop} (h0 : q 0) (h1 : q 1) (h2 : q 2) (h3 : q 3) (h4 : q 4) (h5 : q 5) (h6 : q 6) (h7 : q 7) (h8 : q 8) (h9 : q 9) : ∀ j, j < 10 → q j
  | 0, _ => h0 | 1, _ => h1 | 2, _ => h2 | 3, _ => h3 | 4, _ => h4 | 5, _ => h5 | 6, _ => h6 | 7, _ => h7 | 8, _ => h8 | 9, _ => h9
  | n + 10, h => absurd h (by omega)

section
variable {p g : Nat} {bs : List Nat} {s : St} {w : World}
theorem Rd.setRng (h : Rd p g bs s w) (x : Nat) {v : Int} (hv : v = x) : Rd p g bs { s with rng := x } (w.setCell ⟨p, 1, none⟩ (.int .i64 v)) :=
  h.set 1 _ (fun _ _ _ _ _ _ => lt10 rfl (by rw [hv]; rfl) rfl rfl rfl rfl rfl rfl rfl rfl) rfl
theorem Rd.setVal (h : Rd p g bs s w) (x : Nat) {v : Int} (hv : v = x) : Rd p g bs { s with val := x } (w.setCell ⟨p, 2, none⟩ (.int .i64 v)) :=
  h.set 2 _ (fun _ _ _ _ _ _ => lt10 rfl rfl (by rw [hv]; rfl) rfl rfl rfl rfl rfl rfl rfl) rfl
theorem Rd.setLast (h : Rd p g bs s w) (x : Nat) {v : Int} (hv : v = x) : Rd p g bs { s with last := x } (w.setCell ⟨p, 3, none⟩ (.int .i64 v)) :=
  h.set 3 _ (fun _ _ _ _ _ _ => lt10 rfl rfl rfl (by rw [hv]; rfl) rfl rfl rfl rfl rfl rfl) rfl
theorem Rd.setFront (h : Rd p g bs s w) (x : Nat) {v : Int} (hv : v = x) : Rd p g bs { s with front := x } (w.setCell ⟨p, 4, none⟩ (.int .i64 v)) :=
  h.set 4 _ (fun _ _ _ _ _ _ => lt10 rfl rfl rfl rfl (by rw [hv]; rfl) rfl rfl rfl rfl rfl) rfl
theorem Rd.setCnt (h : Rd p g bs s w) (x : Nat) {v : Int} (hv : v = x) : Rd p g bs { s with cnt := x } (w.setCell ⟨p, 8, none⟩ (.int .i64 v)) :=
  h.set 8 _ (fun _ _ _ _ _ _ => lt10 rfl rfl rfl rfl rfl rfl rfl rfl (by rw [hv]; rfl) rfl) rfl
theorem Rd.setBad (h : Rd p g bs s w) (x : Bool) : Rd p g bs { s with bad := x } (w.setCell ⟨p, 9, none⟩ (.bool x)) :=
  h.set 9 _ (fun _ _ _ _ _ _ => lt10 rfl rfl rfl rfl rfl rfl rfl rfl rfl rfl) rfl
/-- The fields that are asked for. -/
theorem Rd.fields (h : Rd p g bs s w) : w.cell? ⟨p, 1, none⟩ = some (.int .i64 s.rng) ∧ w.cell? ⟨p, 2, none⟩ = some (.int .i64 s.val) ∧ w.cell? ⟨p, 3, none⟩ = some (.int .i64 s.last) ∧ w.cell? ⟨p, 4, none⟩ = some (.int .i64 s.front) ∧
    w.cell? ⟨p, 8, none⟩ = some (.int .i64 s.cnt) ∧ w.cell? ⟨p, 9, none⟩ = some (.bool s.bad) ∧ ∀ i, w.frozen? ⟨p, i, none⟩ = false := by
  obtain ⟨_, _, _, _, _, _, h, _⟩ := h
  exact ⟨h.cell (i := 1) (by decide), h.cell (i := 2) (by decide), h.cell (i := 3) (by decide), h.cell (i := 4) (by decide), h.cell (i := 8) (by decide), h.cell (i := 9) (by decide), h.frozen⟩
end

/-! ### How far it reads -/
theorem onS_cnt (b : List Nat) : ∀ (n : Nat) (s : St), s.cnt ≤ (onS b n s).cnt ∧ (onS b n s).cnt ≤ s.cnt + 8 * n
  | 0, s => ⟨Nat.le_refl _, Nat.le_refl _⟩
  | n + 1, s => by
    unfold onS
    split
    · have h := onS_cnt b n (stepS b s)
      have e : (stepS b s).cnt = s.cnt + 8 := rfl
      omega
    · omega

end Go.Proofs.Ytdbgcbbfnjoebaa
