/- Arguments read off a row's own condition: a slice of numbers; a slice of structs of some numbers and one slice of numbers. -/
import Derived.Test.YtklpicfeajmadaaRows
import Derived.WalkKit
import Derived.Deep.Slices
import Derived.ChangeSlices
import Derived.OpenShut
namespace Go.Proofs.Ytklpicfeajmadaa
open Go.RowKit Go.ChangeShapes Go.WideShapes

theorem own : ownKnob Try.prog.godebug = none := by kernel_rfl
theorem laidOut : laidOutB Try.prog = true := by kernel_rfl

/-- A slice of integers that came in: it is nil; or it leads to a row of 'cap' cells, the first 'len' of which are its elements. -/
def IsRow (k : IntKind) (w : World) (a : Option Addr) (len cap : Nat) (zs : List Int) : Prop :=
  (a = none ∧ len = 0 ∧ cap = 0 ∧ zs = []) ∨
  ∃ x, a = some x ∧ len ≤ cap ∧ cap ≤ maxLen ∧ zs.length = cap ∧ (∀ i, i < zs.length → w.cell? (x.add i) = some (.int k (zs.getD i 0))) ∧ ∀ n ∈ zs, (Lit.int k n).wf = true

def isI64 : Option TypeDesc → Bool
  | some (.int .i64) => true
  | _ => false
def isSliceOf (z : TypeId) : Option TypeDesc → Bool
  | some (.slice e) => e == z
  | _ => false
/-- The struct: nf numbers, then one slice of numbers, each field one cell, in order. -/
def actsB (P : Program) (fs : Array Field) (nf : Nat) (z : TypeId) : Bool :=
  (List.range nf).all (fun i => match fs[i]? with | some f => f.offset == i && P.cellsOf f.type == 1 && isI64 (P.underlying f.type) | none => false) &&
  (match fs[nf]? with | some f => f.offset == nf && P.cellsOf f.type == 1 && isSliceOf z (P.underlying f.type) | none => false)

theorem isI64_of {o : Option TypeDesc} (h : isI64 o = true) : o = some (.int .i64) := by
  unfold isI64 at h
  split at h
  · rfl
  · cases h
theorem isSliceOf_of {z : TypeId} {o : Option TypeDesc} (h : isSliceOf z o = true) : o = some (.slice z) := by
  unfold isSliceOf at h
  split at h
  · rw [beq_iff_eq] at h; rw [h]
  · cases h

/-- One struct among the arguments. -/
structure ActV where
  z : Nat → Int
  a : Option Addr
  len : Nat
  cap : Nat
  q : List Int

def ActAt (nf : Nat) (w : World) (x : Addr) (v : ActV) : Prop :=
  (∀ j, j < nf → w.cell? (x.add j) = some (.int .i64 (v.z j)) ∧ (Lit.int .i64 (v.z j)).wf = true) ∧ w.cell? (x.add nf) = some (.slice v.a v.len v.cap) ∧ IsRow .i64 w v.a v.len v.cap v.q

def ActsAt (nf : Nat) (w : World) (a : Option Addr) (len cap : Nat) (vs : Nat → ActV) : Prop :=
  (a = none ∧ len = 0 ∧ cap = 0) ∨ ∃ x, a = some x ∧ len ≤ cap ∧ cap ≤ maxLen ∧ ∀ i, i < cap → ActAt nf w (x.add (i * (nf + 1))) (vs i)

/-- As many things as are wanted, one for each number below n, as a function. -/
theorem pick_lt {α : Type} (d : α) {p : Nat → α → Prop} : ∀ n : Nat, (∀ i, i < n → ∃ v, p i v) → ∃ f : Nat → α, ∀ i, i < n → p i (f i)
  | 0, _ => ⟨fun _ => d, fun i hi => absurd hi (Nat.not_lt_zero i)⟩
  | n + 1, h => by
    obtain ⟨f, hf⟩ := pick_lt d n (fun i hi => h i (Nat.lt_succ_of_lt hi))
    obtain ⟨v, hv⟩ := h n (Nat.lt_succ_self n)
    refine ⟨fun i => if i = n then v else f i, fun i hi => ?_⟩
    show p i (if i = n then v else f i)
    by_cases hin : i = n
    · rw [if_pos hin, hin]; exact hv
    · rw [if_neg hin]; exact hf i (by omega)

section
variable {H : Type} {enc : TypeId × Value → H} {P : Program} {w : World} {base : Nat} {held : Bool}

theorem row_of {t e : TypeId} {k : IntKind} {fuel : Nat} {v : Value} {x : DataW H × List MemPlace} (ht : P.underlying t = some (.slice e)) (he : P.underlying e = some (.int k)) (hc : P.cellsOf e = 1)
    (h : DataW.trod enc P w base (fun _ => true) held fuel t [v] = some x) : ∃ a len cap zs, v = .slice a len cap ∧ IsRow k w a len cap zs := by
  rcases open_ints ht he hc h with ⟨hcs, _⟩ | ⟨x, l, c, zs, hcs, _, hl, hm, hz, _, hcell, hwz⟩
  · cases hcs
    exact ⟨_, _, _, [], rfl, .inl ⟨rfl, rfl, rfl, rfl⟩⟩
  · cases hcs
    exact ⟨_, _, _, zs, rfl, .inr ⟨_, rfl, hl, hm, by simpa using hz, hcell, hwz⟩⟩

theorem act_of {e z : TypeId} {fs : Array Field} {nf fuel : Nat} {x : Addr} {y : DataW H × List MemPlace} {cs : List Value} (he : P.underlying e = some (.struct fs)) (hok : actsB P fs nf z = true) (hz : P.underlying z = some (.int .i64)) (hcz : P.cellsOf z = 1)
    (hcs : w.cells? base x (nf + 1) = some cs) (h : DataW.trod enc P w base (fun _ => true) held fuel e cs = some y) : ∃ v, ActAt nf w x v := by
  obtain ⟨_, hlen, hcell⟩ := World.cells?_some hcs
  obtain ⟨xs, n, _, _, _, hxl, hall⟩ := DataW.trod_struct he h
  unfold actsB at hok
  rw [Bool.and_eq_true, List.all_eq_true] at hok
  obtain ⟨h1, h2⟩ := hok
  have hints : ∀ j, j < nf → ∃ u : Int, w.cell? (x.add j) = some (.int .i64 u) ∧ (Lit.int .i64 u).wf = true := fun j hj => by
    · have h3 := h1 j (by simpa using hj)
      split at h3
      · rename_i f hf
        simp only [Bool.and_eq_true, beq_iff_eq] at h3
        obtain ⟨⟨ho, hc⟩, hi⟩ := h3
        have h4 := hall j f hf
        have hlt : j < xs.length := by rw [hxl]; exact (Array.getElem?_eq_some_iff.1 hf).1
        rw [List.getElem?_eq_getElem hlt, ho, hc] at h4
        obtain ⟨u, hu, _, hw⟩ := DataW.trod_int (isI64_of hi) h4
        refine ⟨u, ?_, hw⟩
        rw [hcell j (by omega)]
        have h5 := congrArg (·[0]?) hu
        simpa [List.getElem?_take, List.getElem?_drop] using h5
      · cases h3
  have hrow : ∃ a len cap q, w.cell? (x.add nf) = some (.slice a len cap) ∧ IsRow .i64 w a len cap q := by
    split at h2
    · rename_i f hf
      simp only [Bool.and_eq_true, beq_iff_eq] at h2
      obtain ⟨⟨ho, hc⟩, hi⟩ := h2
      have h4 := hall nf f hf
      have hlt : nf < xs.length := by rw [hxl]; exact (Array.getElem?_eq_some_iff.1 hf).1
      rw [List.getElem?_eq_getElem hlt, ho, hc] at h4
      have hd : (cs.drop nf).take 1 = [cs[nf]'(by omega)] := by
        rw [List.drop_eq_getElem_cons (by omega)]; rfl
      rw [hd] at h4
      obtain ⟨a, len, cap, q, hv, hr⟩ := row_of (isSliceOf_of hi) hz hcz h4
      refine ⟨a, len, cap, q, ?_, hr⟩
      rw [hcell nf (by omega), List.getElem?_eq_getElem (by omega), hv]
    · cases h2
  obtain ⟨a, len, cap, q, ha, hr⟩ := hrow
  obtain ⟨z, hzz⟩ := pick_lt (0 : Int) nf hints
  exact ⟨⟨z, a, len, cap, q⟩, hzz, ha, hr⟩

theorem acts_of {t e z : TypeId} {fs : Array Field} {nf fuel : Nat} {a : Option Addr} {len cap : Nat} {y : DataW H × List MemPlace} (ht : P.underlying t = some (.slice e)) (he : P.underlying e = some (.struct fs)) (hok : actsB P fs nf z = true)
    (hz : P.underlying z = some (.int .i64)) (hcz : P.cellsOf z = 1) (hce : P.cellsOf e = nf + 1) (h : DataW.trod enc P w base (fun _ => true) held fuel t [.slice a len cap] = some y) : ∃ vs, ActsAt nf w a len cap vs := by
  rcases Deep.open_slice ht h with ⟨hcs, _⟩ | ⟨x, l, c, m, n, D, Pl, hcs, _, hl, hm, hmm, _, hx⟩
  · cases hcs
    exact ⟨fun _ => ⟨fun _ => 0, none, 0, 0, []⟩, .inl ⟨rfl, rfl, rfl⟩⟩
  · cases hcs
    simp only [if_true] at hmm
    subst hmm
    have hall : ∀ i, i < m → ∃ v, ActAt nf w (x.add (i * (nf + 1))) v := fun i hi => by
      obtain ⟨cs', h1, h2⟩ := hx i hi
      rw [hce] at h1
      exact act_of he hok hz hcz h1 h2
    obtain ⟨vs, hvs⟩ := pick_lt (⟨fun _ => 0, .none, 0, 0, []⟩ : ActV) m hall
    exact ⟨vs, .inr ⟨x, rfl, hl, hm, hvs⟩⟩
end

end Go.Proofs.Ytklpicfeajmadaa
