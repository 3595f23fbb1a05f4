/-
  NARROWER THAN 'FOR EVERY INPUT', by the rows' own cells (each row's printed sentence says how): FixHalves: laid · FixGroups: laid.
  DERIVED. THE GIVEN ROWS OF THIS SEAT. 2 by the template 'for every input the law returns true; each argument reads behind the call as it read before'; 0 by the template 'total and deterministic' (their statements: YtadbnbgjgabkdabDoorTotals.lean).
  GIVEN WITH THE SEED: the statements are not yours to turn. If you find one false, say at which input.
  Laid BY PROGRAM, IN A SANDBOX (cutbox-rows.mjs): the forced cells as the released guide's own fill.sh prints them over the translation 6ed7466c71bc3b70… (all of the seat's roots in one cut). By AI agents, Wed Nov 11 2026. No macro, syntax, notation, axiom, sorry.
-/
import Derived.Test.YtadbnbgjgabkdabDoorChecked
import GoSem.Claim
import GoSem.ClaimJoined
import GoSem.ClaimMapViews
import Derived.JoinedTies
import Derived.KernelRfl
namespace Go.Proofs.YtadbnbgjgabkdabDoor
/- THE CELL 'sum', in the pinned program and in every row, IS THE sha256 OF THE DUMP (.gsa) THAT YtadbnbgjgabkdabDoorProg.lean LOADS. Nothing in Lean hashes anything: it is a label: what it is worth is what the hold of that sum in a sandbox is worth. -/
noncomputable def Tryd.pinned : Pinned := { name := "ytadbnbgjgabkdabdoor", sum := "6ed7466c71bc3b70f1fcfb1c8dad9c0d220bb1d1e2d9a45e2e3c38de0949194b", checked := Tryd.checked }
namespace Rows
def none {H : Type} : Left H := { results := [], args := [] }

/- WHAT THE LISTED PACKAGE-LEVEL VARIABLES READ AS WHEN THE CALL BEGINS. Each datum BY PROGRAM (the guide's laid-datum.mjs) off the statement by which the dump's own 'gosem.cut.vars' lays the variable. In a bare row this is a premise. The card (YtadbnbgjgabkdabDoorCards.lean) ties it to the program's text. -/
def laid_madrigal_fix_roots {H : Type} : DataW H := .agg [.lit (.int .i64 1518500250), .lit (.int .i64 1276901417), .lit (.int .i64 1170923762), .lit (.int .i64 1121280436), .lit (.int .i64 1097253708), .lit (.int .i64 1085434106), .lit (.int .i64 1079572136), .lit (.int .i64 1076653033)]

/-- 'madrigallaw1.FixHalves': WHATEVER THE INPUT: true; the input reads as it did. -/
def fixHalvesSpec : ChangeSpec := { name := "fixHalves", fn := fun _ => fun
  | [d1, d2, d3] => { results := [.lit (.bool true)], args := [d1, d2, d3] }
  | _ => none }
def fixHalvesRow : OpenClaim := { program := "ytadbnbgjgabkdabdoor", sum := "6ed7466c71bc3b70f1fcfb1c8dad9c0d220bb1d1e2d9a45e2e3c38de0949194b", func := "madrigal/madrigallaw1.FixHalves", spec := "fixHalves", named := ["madrigal/fix.roots"], apart := false, laid := [("madrigal/fix.roots", laid_madrigal_fix_roots)] }
def FixHalvesSaid : Prop := fixHalvesRow.holds Tryd.pinned (OpenSpec.ofChange fixHalvesSpec)

/-- ITS FALSE NEIGHBOUR: 'it returns false'. Refute it at one input. -/
def fixHalvesWrong : ChangeSpec := { name := "fixHalves", fn := fun _ => fun
  | [d1, d2, d3] => { results := [.lit (.bool false)], args := [d1, d2, d3] }
  | _ => none }
def FixHalvesWrongFalsely : Prop := fixHalvesRow.holds Tryd.pinned (OpenSpec.ofChange fixHalvesWrong)

/-- 'madrigallaw1.FixGroups': WHATEVER THE INPUT: true; the input reads as it did. -/
def fixGroupsSpec : ChangeSpec := { name := "fixGroups", fn := fun _ => fun
  | [d1, d2] => { results := [.lit (.bool true)], args := [d1, d2] }
  | _ => none }
def fixGroupsRow : OpenClaim := { program := "ytadbnbgjgabkdabdoor", sum := "6ed7466c71bc3b70f1fcfb1c8dad9c0d220bb1d1e2d9a45e2e3c38de0949194b", func := "madrigal/madrigallaw1.FixGroups", spec := "fixGroups", named := ["madrigal/fix.roots"], apart := false, laid := [("madrigal/fix.roots", laid_madrigal_fix_roots)] }
def FixGroupsSaid : Prop := fixGroupsRow.holds Tryd.pinned (OpenSpec.ofChange fixGroupsSpec)

/-- ITS FALSE NEIGHBOUR: 'it returns false'. Refute it at one input. -/
def fixGroupsWrong : ChangeSpec := { name := "fixGroups", fn := fun _ => fun
  | [d1, d2] => { results := [.lit (.bool false)], args := [d1, d2] }
  | _ => none }
def FixGroupsWrongFalsely : Prop := fixGroupsRow.holds Tryd.pinned (OpenSpec.ofChange fixGroupsWrong)

/- THE SECOND FORM. 'bulk': how many values and letters a reading holds, each counted each time it is reached (what is shared counts as often as it is met; a slice's spare places count too). A statement '..UptoSaid' is the law's where the arguments, and the package variables that the reading takes, are together of bulk at most 1048576: NARROWER than '..Said'. Prove '..Said' where nothing that the law and all that it calls make is longer than what came in: it says more and counts as full. Else prove '..UptoSaid'. A law counts once. -/
mutual
def uptoBulk {H : Type} : DataW H → Nat
  | .lit (.string bytes) => bytes.length + 1
  | .lit _ => 1
  | .nil => 1
  | .ptr d => uptoBulk d + 1
  | .slice elems spare => uptoBulkAll elems + uptoBulkAll spare + 1
  | .agg parts => uptoBulkAll parts + 1
  | .iface _ d => uptoBulk d + 1
  | .map entries => uptoBulkEntries entries + 1
  | .held _ => 1
def uptoBulkAll {H : Type} : List (DataW H) → Nat
  | [] => 0
  | d :: r => uptoBulk d + uptoBulkAll r
def uptoBulkEntries {H : Type} : List (Lit × DataW H) → Nat
  | [] => 0
  | x :: r => uptoBulkEntry x + uptoBulkEntries r
def uptoBulkEntry {H : Type} : Lit × DataW H → Nat
  | (.string bytes, d) => bytes.length + uptoBulk d + 1
  | (_, d) => uptoBulk d + 1
 end
def uptoSmall : (H : Type) → List (DataW H) → Bool := fun _ ds => decide (uptoBulkAll ds ≤ 1048576)
def OpenSpec.upto (s : _root_.Go.ChangeSpec) : _root_.Go.OpenSpec := { _root_.Go.OpenSpec.ofChange s with cond := some uptoSmall }

/-- 'madrigallaw1.FixHalves', WHERE WHAT IT READS IS OF BULK AT MOST 1048576: true; the input reads as it did. -/
def fixHalvesUptoRow : OpenClaim := { program := "ytadbnbgjgabkdabdoor", sum := "6ed7466c71bc3b70f1fcfb1c8dad9c0d220bb1d1e2d9a45e2e3c38de0949194b", func := "madrigal/madrigallaw1.FixHalves", spec := "fixHalves", named := ["madrigal/fix.roots"], apart := false, laid := [("madrigal/fix.roots", laid_madrigal_fix_roots)], narrowed := true }
def FixHalvesUptoSaid : Prop := fixHalvesUptoRow.holds Tryd.pinned (OpenSpec.upto fixHalvesSpec)

/-- 'madrigallaw1.FixGroups', WHERE WHAT IT READS IS OF BULK AT MOST 1048576: true; the input reads as it did. -/
def fixGroupsUptoRow : OpenClaim := { program := "ytadbnbgjgabkdabdoor", sum := "6ed7466c71bc3b70f1fcfb1c8dad9c0d220bb1d1e2d9a45e2e3c38de0949194b", func := "madrigal/madrigallaw1.FixGroups", spec := "fixGroups", named := ["madrigal/fix.roots"], apart := false, laid := [("madrigal/fix.roots", laid_madrigal_fix_roots)], narrowed := true }
def FixGroupsUptoSaid : Prop := fixGroupsUptoRow.holds Tryd.pinned (OpenSpec.upto fixGroupsSpec)

end Rows
end Go.Proofs.YtadbnbgjgabkdabDoor
