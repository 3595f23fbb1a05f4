/- An index read off a row's own condition: a struct by value of a number and a slice of numbers. -/
import Derived.Test.YtpppnagodlpnjaaLsfT
import Derived.Lib.SmallJoins
namespace Go.Proofs.Ytpppnagodlpnjaa
open Go.RowKit Go.ChangeShapes Go.WideShapes Go.Deep Go.Joins

section
variable {H : Type} {enc : TypeId × Value → H} {P : Program} {w : World} {base : Nat} {held : Bool}
/-- The index that was handed in. -/
theorem idx_of {t : TypeId} {f0 f1 : Field} {z : TypeId} {r : Reach} {b0 : Nat} {v : Value} {d : DataW H} {p : List MemPlace} (hs : P.underlying t = some (.struct #[f0, f1])) (hone : oneCellFields P #[f0, f1] = true) (hC : P.cellsOf t = 2)
    (h0 : P.underlying f0.type = some (.int .i64)) (h1 : P.underlying f1.type = some (.slice z)) (hz : P.underlying z = some (.int .i64)) (hcz : P.cellsOf z = 1)
    (hv : Value.okWide P w r b0 t v) (h : DataW.Trod enc P w base (fun _ => true) held t v d p) :
    ∃ (one : Int) (a : Option Addr) (len cap : Nat) (q : List Int), v = .agg #[.int .i64 one, .slice a len cap] ∧ (Lit.int .i64 one).wf = true ∧ IsRow .i64 w a len cap q := by
  obtain ⟨v0, v1, y0, y1, n, rfl, _, _, t0, t1⟩ := open_agg2 hs hone hC hv h
  obtain ⟨c, hc, _, wc⟩ := DataW.trod_int h0 t0
  obtain ⟨a, len, cap, q, rfl, hr⟩ := row_of h1 hz hcz t1
  cases hc
  exact ⟨c, a, len, cap, q, rfl, wc, hr⟩
end

end Go.Proofs.Ytpppnagodlpnjaa
