/- What every row of this seat shares: the listed variable read off the row's own condition, the door's own heap, a slice of numbers that came in. -/
import Derived.Test.YtadbnbgjgabkdaaDoorFixD
import Derived.LaidMore
import Derived.Stop.Joined
import Derived.ProofKit
import Derived.OpenShut
import Derived.ChangeOld
namespace Go.Proofs.YtadbnbgjgabkdaaDoor
open Go.ChangeShapes Go.WideShapes Go.ChangeAt Go.RowKit

theorem own : ownKnob Tryd.prog.godebug = none := by kernel_rfl
theorem laidOut : laidOutB Tryd.prog = true := by kernel_rfl

theorem door_met (os : Os) (args : Array Value) : laidMetH Tryd.prog [("madrigal/fix.roots", Rows.laid_madrigal_fix_roots)] ((World.doorLaid Tryd.prog 400 os).forCall (fun _ _ => 0) ⟨#[], args, []⟩).memory :=
  laidMetH_of_parts3 (fuel := 8) (laidMet_of_run' 8 (by kernel_rfl) (by kernel_rfl)) (by kernel_rfl) (by kernel_rfl)

theorem roots_of_laid {W : World} (h : laidMetH Tryd.prog [("madrigal/fix.roots", Rows.laid_madrigal_fix_roots)] W) : RootsAt W := by
  rw [MakeChecks.laidMetH_plain _ _ _ (by kernel_rfl)] at h
  have hg : Tryd.prog.globalNamed "madrigal/fix.roots" = some 0 := by kernel_rfl
  have hT : Lib.TabIs Tryd.prog W "madrigal/fix.roots" .i64 [1518500250, 1276901417, 1170923762, 1121280436, 1097253708, 1085434106, 1079572136, 1076653033] :=
    Lib.tabIs_of_head (n := 8) hg (by kernel_rfl) Tryd.underlying39 Tryd.underlying2 (by kernel_rfl) (by kernel_rfl) h
  unfold Lib.TabIs World.var? at hT
  rw [hg] at hT
  simp only [Option.bind_some] at hT
  split at hT
  · rename_i cs ty fr he
    refine ⟨ty, fr, he.trans ?_⟩
    cases hT
    rfl
  · cases hT

/-- A slice of integers that came in: it is nil; or it leads to a row of 'cap' cells, the first 'len' of which are its elements. -/
def IsRow (k : IntKind) (w : World) (a : Option Addr) (len cap : Nat) (zs : List Int) : Prop :=
  (a = none ∧ len = 0 ∧ cap = 0 ∧ zs = []) ∨
  ∃ x, a = some x ∧ len ≤ cap ∧ cap ≤ maxLen ∧ zs.length = cap ∧ (∀ i, i < zs.length → w.cell? (x.add i) = some (.int k (zs.getD i 0))) ∧ ∀ n ∈ zs, (Lit.int k n).wf = true

end Go.Proofs.YtadbnbgjgabkdaaDoor
