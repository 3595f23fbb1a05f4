/- A range over a function, all of whose rounds go on: what the rounds keep is known to the function that is ranged over (it may read what the rounds write). -/
import Derived.Test.YtjaccokmficfdaaRows
import Derived.RangeFuncNested
import Derived.RangeFuncBound
import Derived.RangeFuncLeaves
import Derived.Shelf.Abstract
import Derived.WalkKit
import Derived.OwnWalkIn
import Derived.TacticsInMore
import Derived.LoopNIn
import Derived.LoopIn
namespace Go.Proofs.Ytjaccokmficfdaa
open Go.RowKit Go.Shelf

/-- A round that goes on. -/
def GoesOn {α : Type} (B : Nat) (I : List α → World → Prop) (xs : List α) (W : World) : Exit → Act → World → Prop
  | .normal, _, W' => KeepsFrom B W W' ∧ I xs W'
  | .ret, _, _ => False
  | .exit _, _, _ => False
  | .goto _, _, _ => False
  | .panic _, _, _ => False
  | .outgrown, _, _ => False

/-- The statement, where the function's own word is asked for the rounds that keep I. -/
theorem wpIn_range_all {F : Fence} {n : Nat} {P : Program} {α : Type} {g : Operand} {ps : Array Tmp} {assign body : Code} {Q : Exit → Act → World → Prop} {a : Act} {w : World}
    (hro : F.round = none) (h1 : 1 ≤ n) {gf : Nat} {lb : Array Value} (hg : a.eval g = .func (.func gf) #[] lb) (hFg : F.fn gf) (eg : ∀ args w, (callFunc gf args).run P w = .ok (.enter gf args) w)
    {encs : α → Array Value} (hps : ∀ x, (encs x).size = ps.size) (okx : List α → α → Prop) (S : List α → Prop) (I : List α → World → Prop) (hI : OwnFrom w.heap.size I) (h0 : I [] w) (a₁ : α → Act)
    (hiter : ∀ (l : Nat) (J : List α → World → Prop) (W : World), (∀ pre W, J pre W → I pre W) →
      (∀ pre x W1, J pre W1 → okx pre x → YieldAt F (n - 1 - 1) P l (encs x) W1 fun e W' => e = .returned (.bool true) ∧ J (pre ++ [x]) W') → J [] W →
      CallsIn F (n - 1) P gf (#[.func (.yield l) #[] #[]] ++ lb) W fun e W' => (∃ v, e = .returned v) ∧ ∃ xs, S xs ∧ J xs W')
    (hassign : ∀ (l : Nat) (x : α) (W : World) (K : Act → World → Prop), K (a₁ x) W →
      assign.wpIn (F.inRound l) (n - 1 - 1) P (Exit.then K (fun _ _ _ => False)) { tmps := (ps.zip (encs x)).foldl (fun t (p, v) => t.setIfInBounds p v) a.tmps, defers := [] } W)
    (hbody : ∀ (l : Nat) (pre : List α) (x : α) (W : World), I pre W → okx pre x → body.wpIn (F.inRound l) (n - 1 - 1) P (GoesOn w.heap.size I (pre ++ [x]) W) (a₁ x) W)
    (hdone : ∀ (D : Nat) (xs : List α) (W : World), w.heap.size ≤ D → S xs → I xs W → W.heap[D]? = some (.deferred (some [])) → Q .normal { a with defers := { target := .collected D, args := #[] } :: a.defers } W) :
    (Code.rangeFunc g ps assign body).wpIn F n P Q a w := by
  refine wpIn_rangeFunc fun fn hfn => ?_
  rw [hro]
  let L : LoopState → Option Code → Loop := fun st pe => { state := st, pending := pe, fn, tmps := a.tmps, params := ps, assign, body, defers := w.heap.size }
  -- the loop's record and the block for deferred calls
  let Rec : LoopState → World → Prop := fun st W => W.heap[w.heap.size + 1]? = some (.loop (L st none)) ∧ W.heap[w.heap.size]? = some (.deferred (some []))
  have put : ∀ (st st' : LoopState) (W : World), Rec st W → Rec st' (W.putObj (w.heap.size + 1) (.loop (L st' none))) := fun st st' W h =>
    ⟨World.putObj_heap_same (Array.getElem?_eq_some_iff.1 h.1).1, (World.putObj_heap_other (by omega)).trans h.2⟩
  have keepI : ∀ (st : LoopState) (o : Obj) (xs : List α) (W : World), Rec st W → I xs W → I xs (W.putObj (w.heap.size + 1) o) := fun st o xs W h hi => hI.putObj o hi (by omega) h.1 rfl
  have start : Rec .ready ((w.alloc (.deferred (some []))).alloc (.loop (L .ready none))) := by
    refine ⟨?_, (Below.heap_alloc _ _ _ (by simp)).trans (World.alloc_heap_new w _)⟩
    have h := World.alloc_heap_new (w.alloc (.deferred (some []))) (.loop (L .ready none))
    rwa [World.size_alloc] at h
  let W1 : World := (w.alloc (.deferred (some []))).alloc (.loop (L .ready none))
  refine ⟨w.heap.size + 1, [{ target := .collected w.heap.size, args := #[] }], W1, { target := .fn (.func gf) lb, args := #[.func (.yield (w.heap.size + 1)) #[] #[]] }, W1, gf,
    #[.func (.yield (w.heap.size + 1)) #[] #[]] ++ lb, W1, run_enterLoop_outer _ _ _ _ _, ?_, ?_, ?_, fun _ => h1, ?_⟩
  · simp only [resolve, hg]
    simp [go_sem]
  · intro f' hf'; simp [Target.leads] at hf'; subst hf'; exact hFg
  · simp [invoke, go_sem, eg]
  · refine (hiter (w.heap.size + 1) (fun xs W => I xs W ∧ Rec .ready W) _ (fun _ _ h => h.1) ?_ ⟨hI.alloc _ (hI.alloc _ h0), start⟩).mono ?_
    · rintro pre x W ⟨hi, hr⟩ hx
      have hy := run_yield (P := P) (args := encs x) hr.1 (hps x)
      refine ⟨fn, _, assign, body, hy, roundIn_of_wpIn hfn (hassign _ x W _ ⟨_, run_beginRound hr.1 rfl, ?_⟩)⟩
      have hb := put .ready .busy W hr
      refine wpIn_mono (hbody _ pre x _ (keepI .ready _ _ _ hr hi) hx) ?_
      rintro e a3 W3 hp
      cases e with
      | normal =>
        obtain ⟨hk, hi3⟩ := hp
        have h3 : Rec .busy W3 := ⟨hk.same _ _ (by omega) hb.1 rfl, hk.same _ _ (Nat.le_refl _) hb.2 rfl⟩
        exact ⟨_, _, run_endRound (P := P) none h3.1, rfl, keepI .busy _ _ _ h3 hi3, put .busy .ready W3 h3⟩
      | ret => exact hp.elim
      | exit id => exact hp.elim
      | goto t => exact hp.elim
      | panic ch => exact hp.elim
      | outgrown => exact hp.elim
    · rintro e W2 ⟨⟨v, rfl⟩, xs, hS, hi, hr⟩
      exact ⟨none, _, run_endLoop (P := P) hr.1 (by simp [L]), hdone _ xs _ (Nat.le_refl _) hS (keepI .ready _ _ _ hr hi) ((World.putObj_heap_other (by omega)).trans hr.2)⟩

end Go.Proofs.Ytjaccokmficfdaa
