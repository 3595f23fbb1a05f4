/- What every row of this seat shares: the listed variable read off the row's own condition, the door's own heap; a lag and taps by value. -/
import Derived.Test.YtnmfbjpbhghgaaaDoorMA
import Derived.Test.YtnmfbjpbhghgaaaDoorActs
import Derived.LaidMore
import Derived.Stop.Joined
import Derived.ProofKit
import Derived.OpenShut
import Derived.ChangeOld
import Derived.Lib.SmallJoins
namespace Go.Proofs.YtnmfbjpbhghgaaaDoor
open Go.ChangeShapes Go.WideShapes Go.ChangeAt Go.RowKit

theorem door_met (os : Os) (args : Array Value) : laidMetH Tryd.prog [("madrigal/fix.roots", Rows.laid_madrigal_fix_roots)] ((World.doorLaid Tryd.prog 400 os).forCall (fun _ _ => 0) ⟨#[], args, []⟩).memory :=
  laidMetH_of_parts3 (fuel := 8) (laidMet_of_run' 8 (by kernel_rfl) (by kernel_rfl)) (by kernel_rfl) (by kernel_rfl)

theorem roots_of_laid {W : World} (h : laidMetH Tryd.prog [("madrigal/fix.roots", Rows.laid_madrigal_fix_roots)] W) : RootsAt W := by
  rw [MakeChecks.laidMetH_plain _ _ _ (by kernel_rfl)] at h
  have hg : Tryd.prog.globalNamed "madrigal/fix.roots" = some 0 := by kernel_rfl
  have hT : Lib.TabIs Tryd.prog W "madrigal/fix.roots" .i64 [1518500250, 1276901417, 1170923762, 1121280436, 1097253708, 1085434106, 1079572136, 1076653033] :=
    Lib.tabIs_of_head (n := 8) hg (by kernel_rfl) Tryd.underlying80 Tryd.underlying2 (by kernel_rfl) (by kernel_rfl) h
  unfold Lib.TabIs World.var? at hT
  rw [hg] at hT
  simp only [Option.bind_some] at hT
  split at hT
  · rename_i cs ty fr he
    refine ⟨ty, fr, he.trans ?_⟩
    cases hT
    rfl
  · cases hT

section
open Go.Deep Go.Joins
variable {H : Type} {P : Program} {enc : TypeId × Value → H} {w : World} {base : Nat} {held : Bool}

/-- A struct of two numbers that was handed in. -/
theorem pair_of {t : TypeId} {f0 f1 : Field} {r : Reach} {b0 : Nat} {v : Value} {d : DataW H} {p : List MemPlace} (hs : P.underlying t = some (.struct #[f0, f1])) (hone : oneCellFields P #[f0, f1] = true) (hC : P.cellsOf t = 2)
    (h0 : P.underlying f0.type = some (.int .i64)) (h1 : P.underlying f1.type = some (.int .i64)) (hv : Value.okWide P w r b0 t v) (h : DataW.Trod enc P w base (fun _ => true) held t v d p) :
    ∃ x y : Int, v = .agg #[.int .i64 x, .int .i64 y] ∧ (Lit.int .i64 x).wf = true ∧ (Lit.int .i64 y).wf = true := by
  obtain ⟨v0, v1, y0, y1, n, rfl, _, _, t0, t1⟩ := open_agg2 hs hone hC hv h
  obtain ⟨x, hx, _, wx⟩ := DataW.trod_int h0 t0
  obtain ⟨y, hy, _, wy⟩ := DataW.trod_int h1 t1
  cases hx; cases hy
  exact ⟨x, y, rfl, wx, wy⟩
end

end Go.Proofs.YtnmfbjpbhghgaaaDoor
