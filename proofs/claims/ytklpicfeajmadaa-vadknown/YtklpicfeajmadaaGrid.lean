/- An argument that is a slice of rows of numbers, read off a row's own condition; such rows in memory. -/
import Derived.Test.YtklpicfeajmadaaNumA
import Derived.Lib.SmallJoins
namespace Go.Proofs.Ytklpicfeajmadaa
open Go.RowKit Go.ChangeShapes Go.WideShapes Go.Deep Go.Joins

/-- One row of numbers among the arguments: where it lies, and its numbers. -/
structure RowV where
  a : Option Addr
  len : Nat
  cap : Nat
  zs : List Int

def GridIn (w : World) (a : Option Addr) (len cap : Nat) (vs : Nat → RowV) : Prop :=
  (a = none ∧ len = 0 ∧ cap = 0) ∨ ∃ x, a = some x ∧ len ≤ cap ∧ cap ≤ maxLen ∧ ∀ i, i < cap → w.cell? (x.add i) = some (.slice (vs i).a (vs i).len (vs i).cap) ∧ ∃ q, IsRow .i64 w (vs i).a (vs i).len (vs i).cap q ∧ (vs i).zs = q.take (vs i).len

section
variable {H : Type} {enc : TypeId × Value → H} {P : Program} {w : World} {base : Nat} {held : Bool}
theorem grid_of {t e z : TypeId} {fuel : Nat} {a : Option Addr} {len cap : Nat} {y : DataW H × List MemPlace} (ht : P.underlying t = some (.slice e)) (he : P.underlying e = some (.slice z)) (hz : P.underlying z = some (.int .i64)) (hcz : P.cellsOf z = 1) (hce : P.cellsOf e = 1)
    (h : DataW.trod enc P w base (fun _ => true) held fuel t [.slice a len cap] = some y) : ∃ vs, GridIn w a len cap vs := by
  rcases Deep.open_slice ht h with ⟨hcs, _⟩ | ⟨x, l, c, m, n, D, Pl, hcs, _, hl, hm, hmm, _, hx⟩
  · cases hcs
    exact ⟨fun _ => ⟨none, 0, 0, []⟩, .inl ⟨rfl, rfl, rfl⟩⟩
  · cases hcs
    simp only [if_true] at hmm
    subst hmm
    have hall : ∀ i, i < m → ∃ v : RowV, w.cell? (x.add i) = some (.slice v.a v.len v.cap) ∧ ∃ q, IsRow .i64 w v.a v.len v.cap q ∧ v.zs = q.take v.len := fun i hi => by
      obtain ⟨cs', h1, h2⟩ := hx i hi
      rw [hce, Nat.mul_one] at h1
      obtain ⟨_, hlen, hcell⟩ := World.cells?_some h1
      obtain ⟨u, rfl⟩ : ∃ u, cs' = [u] := List.length_eq_one_iff.1 hlen
      obtain ⟨a', len', cap', q, rfl, hr⟩ := row_of he hz hcz h2
      have hc0 := hcell 0 (by decide)
      have e0 : (x.add i).add 0 = x.add i := rfl
      rw [e0] at hc0
      exact ⟨⟨a', len', cap', q.take len'⟩, by rw [hc0]; rfl, q, hr, rfl⟩
    obtain ⟨vs, hvs⟩ := pick_lt (⟨.none, 0, 0, []⟩ : RowV) m hall
    exact ⟨vs, .inr ⟨x, rfl, hl, hm, hvs⟩⟩
end

/-- n rows lie at a. -/
structure Grid (w : World) (a : Option Addr) (n : Nat) (vs : Nat → RowV) : Prop where
  at_ : 0 < n → ∃ b off, a = some ⟨b, off, none⟩ ∧ b < w.heap.size ∧ ∀ i, i < n → w.cell? ⟨b, off + i, none⟩ = some (.slice (vs i).a (vs i).len (vs i).cap)
  row : ∀ i, i < n → Zs w (vs i).a (vs i).len (vs i).zs ∧ (vs i).len ≤ (vs i).cap ∧ (vs i).cap ≤ maxLen
  nil : ∀ i, i < n → (vs i).a = none → (vs i).cap = 0
theorem Grid.keep {w w' : World} {a : Option Addr} {n : Nat} {vs : Nat → RowV} (h : Grid w a n vs) (hb : Below w.heap.size w w') : Grid w' a n vs :=
  ⟨fun h0 => by
    obtain ⟨b, off, e, hl, hc⟩ := h.at_ h0
    exact ⟨b, off, e, Nat.lt_of_lt_of_le hl hb.size, fun i hi => (hb.cell (p := ⟨b, off + i, none⟩) hl).trans (hc i hi)⟩,
   fun i hi => ⟨(h.row i hi).1.keep hb, (h.row i hi).2⟩, h.nil⟩
theorem addr_plain {w : World} {x : Addr} {v : Value} (h : w.cell? x = some v) : x = ⟨x.block, x.off, none⟩ := by
  obtain ⟨b, o, s⟩ := x
  have : s = none := World.cell?_spot h
  subst this
  rfl
theorem row_cap {w : World} {a : Option Addr} {len cap : Nat} {q : List Int} (h : IsRow .i64 w a len cap q) : len ≤ cap ∧ cap ≤ maxLen := by
  rcases h with ⟨rfl, rfl, rfl, rfl⟩ | ⟨x, rfl, hl, hm, hq, hc, _⟩
  · exact ⟨Nat.le_refl _, Nat.zero_le _⟩
  · exact ⟨hl, hm⟩
theorem Grid.of_in {w : World} {a : Option Addr} {len cap : Nat} {vs : Nat → RowV} (h : GridIn w a len cap vs) : Grid w a len vs ∧ (len ≤ cap ∧ cap ≤ maxLen) ∧ (a = none → len = 0 ∧ cap = 0) := by
  rcases h with ⟨rfl, rfl, rfl⟩ | ⟨x, rfl, hl, hm, hc⟩
  · exact ⟨⟨fun h => absurd h (Nat.not_lt_zero _), fun i hi => absurd hi (Nat.not_lt_zero _), fun i hi => absurd hi (Nat.not_lt_zero _)⟩, ⟨Nat.le_refl _, Nat.zero_le _⟩, fun _ => ⟨rfl, rfl⟩⟩
  · refine ⟨⟨fun h0 => ?_, fun i hi => ?_, fun i hi e => ?_⟩, ⟨hl, hm⟩, fun h => (by cases h)⟩
    · have hx0 := (hc 0 (by omega)).1
      have hp := addr_plain hx0
      have e0 : x.add 0 = x := rfl
      rw [e0] at hp hx0
      refine ⟨x.block, x.off, by rw [← hp], World.block_lt_of_cell? w _ hx0, fun i hi => ?_⟩
      have h1 := (hc i (by omega)).1
      rw [hp, Addr.add_lit] at h1
      exact h1
    · obtain ⟨_, q, hr, hq⟩ := hc i (by omega)
      have h2 := Zs.of_isRow hr
      rw [← hq] at h2
      exact ⟨h2.1, row_cap hr⟩
    · obtain ⟨_, q, hr, hq⟩ := hc i (by omega)
      exact ((Zs.of_isRow hr).2.2 e).2

end Go.Proofs.Ytklpicfeajmadaa
