/- A part of a voice read off a row's own condition: a struct of a slice of numbers, two numbers, an array of five and a slice of numbers; by value, and in a slice. -/
import Derived.Test.YtbnkapeahbegaaaActs
namespace Go.Proofs.Ytbnkapeahbegaaa
open Go.RowKit Go.ChangeShapes Go.WideShapes

/-- One part among the arguments. -/
structure PartV where
  a : Option Addr
  len : Nat
  cap : Nat
  q : List Int
  loud : Int
  lag : Int
  taps : Nat → Int
  fa : Option Addr
  flen : Nat
  fcap : Nat
  fq : List Int

def PartV.cells (v : PartV) : List Value :=
  [.slice v.a v.len v.cap, .int .i64 v.loud, .int .i64 v.lag, .int .i64 (v.taps 0), .int .i64 (v.taps 1), .int .i64 (v.taps 2), .int .i64 (v.taps 3), .int .i64 (v.taps 4), .slice v.fa v.flen v.fcap]

structure PartOk (w : World) (v : PartV) : Prop where
  row : IsRow .i64 w v.a v.len v.cap v.q
  wloud : (Lit.int .i64 v.loud).wf = true
  wlag : (Lit.int .i64 v.lag).wf = true
  wtaps : ∀ j, j < 5 → (Lit.int .i64 (v.taps j)).wf = true
  filt : IsRow .i64 w v.fa v.flen v.fcap v.fq

def PartAt (w : World) (x : Addr) (v : PartV) : Prop := PartOk w v ∧ ∀ j, j < 9 → w.cell? (x.add j) = v.cells[j]?

def PartsAt (w : World) (a : Option Addr) (len cap : Nat) (vs : Nat → PartV) : Prop :=
  (a = none ∧ len = 0 ∧ cap = 0) ∨ ∃ x, a = some x ∧ len ≤ cap ∧ cap ≤ maxLen ∧ ∀ i, i < cap → PartAt w (x.add (i * 9)) (vs i)

theorem nine {α : Type} {l : List α} (h : l.length = 9) : ∃ c0 c1 c2 c3 c4 c5 c6 c7 c8, l = [c0, c1, c2, c3, c4, c5, c6, c7, c8] := by
  match l, h with
  | [c0, c1, c2, c3, c4, c5, c6, c7, c8], _ => exact ⟨c0, c1, c2, c3, c4, c5, c6, c7, c8, rfl⟩

section
variable {H : Type} {enc : TypeId × Value → H} {P : Program} {w : World} {base : Nat} {held : Bool}

theorem five_of {t e : TypeId} {fuel : Nat} {c0 c1 c2 c3 c4 : Value} {y : DataW H × List MemPlace} (ht : P.underlying t = some (.array 5 e)) (he : P.underlying e = some (.int .i64)) (hc : P.cellsOf e = 1)
    (h : DataW.trod enc P w base (fun _ => true) held fuel t [c0, c1, c2, c3, c4] = some y) :
    ∃ f : Nat → Int, [c0, c1, c2, c3, c4] = [.int .i64 (f 0), .int .i64 (f 1), .int .i64 (f 2), .int .i64 (f 3), .int .i64 (f 4)] ∧ ∀ j, j < 5 → (Lit.int .i64 (f j)).wf = true := by
  obtain ⟨xs, m, _, _, _, hxl, hall⟩ := DataW.trod_array ht h
  have hone : ∀ j, j < 5 → ∃ u : Int, [c0, c1, c2, c3, c4][j]? = some (.int .i64 u) ∧ (Lit.int .i64 u).wf = true := fun j hj => by
    have h4 := hall j hj
    rw [hc, Nat.mul_one, List.getElem?_eq_getElem (by omega)] at h4
    obtain ⟨u, hu, _, hw⟩ := DataW.trod_int he h4
    refine ⟨u, ?_, hw⟩
    have h5 := congrArg (·[0]?) hu
    simpa [List.getElem?_take, List.getElem?_drop] using h5
  obtain ⟨f, hf⟩ := pick_lt (0 : Int) 5 hone
  have e0 := (hf 0 (by decide)).1
  have e1 := (hf 1 (by decide)).1
  have e2 := (hf 2 (by decide)).1
  have e3 := (hf 3 (by decide)).1
  have e4 := (hf 4 (by decide)).1
  simp only [List.getElem?_cons_zero, List.getElem?_cons_succ, Option.some.injEq] at e0 e1 e2 e3 e4
  exact ⟨f, by rw [e0, e1, e2, e3, e4], fun j hj => (hf j hj).2⟩

theorem part_cells {t z e : TypeId} {f0 f1 f2 f3 f4 : Field} {fuel : Nat} {cs : List Value} {y : DataW H × List MemPlace} (ht : P.underlying t = some (.struct #[f0, f1, f2, f3, f4])) (hC : P.cellsOf t = 9)
    (ho : [f0.offset, f1.offset, f2.offset, f3.offset, f4.offset] = [0, 1, 2, 3, 8]) (hc : [P.cellsOf f0.type, P.cellsOf f1.type, P.cellsOf f2.type, P.cellsOf f3.type, P.cellsOf f4.type] = [1, 1, 1, 5, 1])
    (h0 : P.underlying f0.type = some (.slice z)) (h1 : P.underlying f1.type = some (.int .i64)) (h2 : P.underlying f2.type = some (.int .i64)) (h3 : P.underlying f3.type = some (.array 5 e)) (h4 : P.underlying f4.type = some (.slice z))
    (he : P.underlying e = some (.int .i64)) (hce : P.cellsOf e = 1) (hz : P.underlying z = some (.int .i64)) (hcz : P.cellsOf z = 1)
    (h : DataW.trod enc P w base (fun _ => true) held fuel t cs = some y) : ∃ v : PartV, cs = v.cells ∧ PartOk w v := by
  obtain ⟨xs, n, _, _, hl, hxl, hall⟩ := DataW.trod_struct ht h
  simp only [List.cons.injEq, and_true] at ho hc
  obtain ⟨o0, o1, o2, o3, o4⟩ := ho
  obtain ⟨k0, k1, k2, k3, k4⟩ := hc
  obtain ⟨c0, c1, c2, c3, c4, c5, c6, c7, c8, rfl⟩ := nine (hl.trans hC)
  have g0 := hall 0 f0 rfl
  have g1 := hall 1 f1 rfl
  have g2 := hall 2 f2 rfl
  have g3 := hall 3 f3 rfl
  have g4 := hall 4 f4 rfl
  have hx5 : xs.length = 5 := hxl
  rw [List.getElem?_eq_getElem (by omega)] at g0 g1 g2 g3 g4
  rw [o0, k0] at g0
  rw [o1, k1] at g1
  rw [o2, k2] at g2
  rw [o3, k3] at g3
  rw [o4, k4] at g4
  obtain ⟨a, len, cap, q, e0, r0⟩ := row_of h0 hz hcz g0
  obtain ⟨u1, e1, _, w1⟩ := DataW.trod_int h1 g1
  obtain ⟨u2, e2, _, w2⟩ := DataW.trod_int h2 g2
  obtain ⟨f, e3, w3⟩ := five_of h3 he hce g3
  obtain ⟨fa, flen, fcap, fq, e4, r4⟩ := row_of h4 hz hcz g4
  refine ⟨⟨a, len, cap, q, u1, u2, f, fa, flen, fcap, fq⟩, ?_, ⟨r0, w1, w2, w3, r4⟩⟩
  simp only [List.drop, List.take, List.cons.injEq, and_true] at e1 e2 e3
  unfold PartV.cells
  rw [e0, e1, e2, e3.1, e3.2.1, e3.2.2.1, e3.2.2.2.1, e3.2.2.2.2, e4]

/-- A part by value. -/
theorem part_of {t z e : TypeId} {f0 f1 f2 f3 f4 : Field} {r : Reach} {b0 : Nat} {v : Value} {d : DataW H} {p : List MemPlace} (ht : P.underlying t = some (.struct #[f0, f1, f2, f3, f4])) (hC : P.cellsOf t = 9)
    (ho : [f0.offset, f1.offset, f2.offset, f3.offset, f4.offset] = [0, 1, 2, 3, 8]) (hc : [P.cellsOf f0.type, P.cellsOf f1.type, P.cellsOf f2.type, P.cellsOf f3.type, P.cellsOf f4.type] = [1, 1, 1, 5, 1])
    (h0 : P.underlying f0.type = some (.slice z)) (h1 : P.underlying f1.type = some (.int .i64)) (h2 : P.underlying f2.type = some (.int .i64)) (h3 : P.underlying f3.type = some (.array 5 e)) (h4 : P.underlying f4.type = some (.slice z))
    (he : P.underlying e = some (.int .i64)) (hce : P.cellsOf e = 1) (hz : P.underlying z = some (.int .i64)) (hcz : P.cellsOf z = 1)
    (hv : Value.okWide P w r b0 t v) (h : DataW.Trod enc P w base (fun _ => true) held t v d p) : ∃ x : PartV, v = .agg x.cells.toArray ∧ PartOk w x := by
  obtain ⟨cs, rfl, hsz⟩ := okWide_struct ht hv
  obtain ⟨fuel, hf⟩ := h
  obtain ⟨x, hx, hok⟩ := part_cells ht hC ho hc h0 h1 h2 h3 h4 he hce hz hcz hf
  refine ⟨x, ?_, hok⟩
  have : cs.toList = x.cells := hx
  rw [← this]

/-- A slice of parts. -/
theorem parts_of {s t z e : TypeId} {f0 f1 f2 f3 f4 : Field} {fuel : Nat} {a : Option Addr} {len cap : Nat} {y : DataW H × List MemPlace} (hs : P.underlying s = some (.slice t)) (ht : P.underlying t = some (.struct #[f0, f1, f2, f3, f4])) (hC : P.cellsOf t = 9)
    (ho : [f0.offset, f1.offset, f2.offset, f3.offset, f4.offset] = [0, 1, 2, 3, 8]) (hc : [P.cellsOf f0.type, P.cellsOf f1.type, P.cellsOf f2.type, P.cellsOf f3.type, P.cellsOf f4.type] = [1, 1, 1, 5, 1])
    (h0 : P.underlying f0.type = some (.slice z)) (h1 : P.underlying f1.type = some (.int .i64)) (h2 : P.underlying f2.type = some (.int .i64)) (h3 : P.underlying f3.type = some (.array 5 e)) (h4 : P.underlying f4.type = some (.slice z))
    (he : P.underlying e = some (.int .i64)) (hce : P.cellsOf e = 1) (hz : P.underlying z = some (.int .i64)) (hcz : P.cellsOf z = 1)
    (h : DataW.trod enc P w base (fun _ => true) held fuel s [.slice a len cap] = some y) : ∃ vs, PartsAt w a len cap vs := by
  rcases Deep.open_slice hs h with ⟨hcs, _⟩ | ⟨x, l, c, m, n, D, Pl, hcs, _, hl, hm, hmm, _, hx⟩
  · cases hcs
    exact ⟨fun _ => ⟨none, 0, 0, [], 0, 0, fun _ => 0, none, 0, 0, []⟩, .inl ⟨rfl, rfl, rfl⟩⟩
  · cases hcs
    simp only [if_true] at hmm
    subst hmm
    have hall : ∀ i, i < m → ∃ v : PartV, PartAt w (x.add (i * 9)) v := fun i hi => by
      obtain ⟨cs', g1, g2⟩ := hx i hi
      rw [hC] at g1
      obtain ⟨_, hlen, hcell⟩ := World.cells?_some g1
      obtain ⟨v, hv, hok⟩ := part_cells ht hC ho hc h0 h1 h2 h3 h4 he hce hz hcz g2
      exact ⟨v, hok, fun j hj => by rw [hcell j hj, hv]⟩
    obtain ⟨vs, hvs⟩ := pick_lt (⟨none, 0, 0, [], 0, 0, fun _ => 0, none, 0, 0, []⟩ : PartV) m hall
    exact ⟨vs, .inr ⟨x, rfl, hl, hm, hvs⟩⟩
end

end Go.Proofs.Ytbnkapeahbegaaa
