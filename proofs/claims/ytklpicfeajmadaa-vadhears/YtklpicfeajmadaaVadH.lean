/- What the law VadHears holds while it runs: both meters beside each other, and the truth values that it has grown. -/
import Derived.Test.YtklpicfeajmadaaVadJ
namespace Go.Proofs.Ytklpicfeajmadaa
namespace Vad
open Go.RowKit

theorem own_in {w : World} {B : Nat} {e : TypeId} {z : Nat} {v : Value} {n : Nat} {xs : List Value} (h : w.ownsRow B e z v n xs) {k : Nat} (hk : v.ownBlock = some k) : B ≤ k ∧ k < w.heap.size := by
  obtain ⟨_, h1 | ⟨g, cap, cur, hv, hB, hh, _⟩⟩ := h
  · rw [h1.1] at hk; cases hk
  · rw [hv] at hk
    cases hk
    exact ⟨hB, (Array.getElem?_eq_some_iff.1 hh).1⟩
theorem own_of {w w' : World} {v : Value} {n : Nat} {xs : List Value} {B : Nat} {e : TypeId} {z : Nat} (h : w.ownsRow B e z v n xs) (hb : ∀ k, v.ownBlock = some k → w'.heap[k]? = w.heap[k]?) : w'.ownsRow B e z v n xs := by
  obtain ⟨hl, h⟩ := h
  refine ⟨hl, ?_⟩
  rcases h with h | ⟨g, cap, cur, rfl, hg, hh, hrest⟩
  · exact .inl h
  · exact .inr ⟨g, cap, cur, rfl, hg, (hb g rfl).trans hh, hrest⟩

structure HS (w0 W : World) (B p r : Nat) (m1 m2 : MeterI) (v : Value) (k : Nat) (bs : List Bool) : Prop where
  own : W.ownsRow B 4 1 v k (bs.map Value.bool)
  low : Below w0.heap.size w0 W
  size : B ≤ W.heap.size
  mt : Mt p m1 W
  rm : RMt r m2 W
/-- Where all lies. -/
structure HP (w0 : World) (B p r : Nat) : Prop where
  lp : w0.heap.size ≤ p
  lr : w0.heap.size ≤ r
  pB : p < B
  rB : r < B
  ne : p ≠ r
section
variable {w0 W W' : World} {B p r k : Nat} {m1 m2 : MeterI} {v : Value} {bs : List Bool}
theorem HS.drewN (h : HS w0 W B p r m1 m2 v k bs) (n : Nat) : HS w0 (W.drewN n) B p r m1 m2 v k bs := ⟨h.own, below_drewN h.low n, h.size, h.mt, h.rm⟩
theorem HS.drew (h : HS w0 W B p r m1 m2 v k bs) : HS w0 W.drew B p r m1 m2 v k bs := ⟨h.own, h.low.drew, h.size, h.mt, h.rm⟩
theorem HS.keep (h : HS w0 W B p r m1 m2 v k bs) (hb : Below W.heap.size W W') : HS w0 W' B p r m1 m2 v k bs :=
  ⟨own_of h.own fun j hj => hb.block j (own_in h.own hj).2, h.low.trans (hb.mono h.low.size), Nat.le_trans h.size hb.size, h.mt.keep hb, h.rm.keep hb⟩
theorem HS.ref (h : HS w0 W B p r m1 m2 v k bs) (hP : HP w0 B p r) (hb : But r W W') {m2' : MeterI} (hm : RMt r m2' W') : HS w0 W' B p r m1 m2' v k bs :=
  ⟨own_of h.own fun j hj => hb.block j (by have := own_in h.own hj; have := hP.rB; omega), h.low.trans (hb.below hP.lr), by rw [hb.size]; exact h.size, h.mt.of_block (hb.block p hP.ne), hm⟩
theorem HS.prog (h : HS w0 W B p r m1 m2 v k bs) (hP : HP w0 B p r) (hb : Off p W W') {m1' : MeterI} (hm : Mt p m1' W') : HS w0 W' B p r m1' m2 v k bs :=
  ⟨own_of h.own fun j hj => hb.block j (by have := own_in h.own hj; have := hP.pB; omega) (own_in h.own hj).2, h.low.trans (hb.below hP.lp h.low.size), Nat.le_trans h.size hb.size, hm, h.rm.off hb hP.ne.symm⟩
theorem HS.push (h : HS w0 W B p r m1 m2 v k bs) (hP : HP w0 B p r) (hb : Below B W W') {v' : Value} {k' : Nat} {bs' : List Bool} (ho : W'.ownsRow B 4 1 v' k' (bs'.map Value.bool)) : HS w0 W' B p r m1 m2 v' k' bs' :=
  ⟨ho, h.low.trans (hb.mono (by have := hP.lp; have := hP.pB; omega)), Nat.le_trans h.size hb.size, h.mt.of_block (hb.block p hP.pB), h.rm.of_block (hb.block r hP.rB)⟩
end

theorem tells_len (m : MeterI) : ∀ l, (m.tells l).length = l.length := by
  intro l
  induction l generalizing m with
  | nil => rfl
  | cons a l ih => exact congrArg (· + 1) (ih _)
theorem lvls_len (vs : Nat → RowV) : ∀ n, (lvlsG vs n).length = n
  | 0 => rfl
  | n + 1 => by
    show (lvlsG vs n ++ [_]).length = _
    rw [List.length_append, lvls_len vs n]
    rfl
theorem rmt_new {w : World} : RMt w.heap.size ⟨-1, 0⟩ (w.alloc (.cells #[.int .i64 (-1), .int .i64 0] 31)) := World.rowIs_alloc w _ _ _ (fun i hi => by
  match i, hi with
  | 0, _ => rfl
  | 1, _ => rfl)
end Vad
end Go.Proofs.Ytklpicfeajmadaa
