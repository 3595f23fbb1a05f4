/-
  NARROWER THAN 'FOR EVERY INPUT', by the rows' own cells (each row's printed sentence says how): TabsNew: laid.
  DERIVED. THE GIVEN ROWS OF THIS SEAT. 1 by the template 'for every input the law returns true; each argument reads behind the call as it read before'; 0 by the template 'total and deterministic' (their statements: YtjcbcmloenhohabDoorTotals.lean).
  GIVEN WITH THE SEED: the statements are not yours to turn. If you find one false, say at which input.
  Laid BY PROGRAM, IN A SANDBOX (cutbox-rows.mjs): the forced cells as the released guide's own fill.sh prints them over the translation 734215c726f6bdfe… (all of the seat's roots in one cut). By AI agents, Wed Nov 11 2026. No macro, syntax, notation, axiom, sorry.
-/
import Derived.Test.YtjcbcmloenhohabDoorChecked
import GoSem.Claim
import GoSem.ClaimJoined
import GoSem.ClaimMapViews
import Derived.JoinedTies
import Derived.KernelRfl
namespace Go.Proofs.YtjcbcmloenhohabDoor
/- THE CELL 'sum', in the pinned program and in every row, IS THE sha256 OF THE DUMP (.gsa) THAT YtjcbcmloenhohabDoorProg.lean LOADS. Nothing in Lean hashes anything: it is a label: what it is worth is what the hold of that sum in a sandbox is worth. -/
noncomputable def Tryd.pinned : Pinned := { name := "ytjcbcmloenhohabdoor", sum := "734215c726f6bdfef1698bd3e517095b39cbfe8230cd5031be0403529e64504d", checked := Tryd.checked }
namespace Rows
def none {H : Type} : Left H := { results := [], args := [] }

/- WHAT THE LISTED PACKAGE-LEVEL VARIABLES READ AS WHEN THE CALL BEGINS. Each datum BY PROGRAM (the guide's laid-datum.mjs) off the statement by which the dump's own 'gosem.cut.vars' lays the variable. In a bare row this is a premise. The card (YtjcbcmloenhohabDoorCards.lean) ties it to the program's text. -/
def laid_madrigal_tabs_edges {H : Type} : DataW H := .slice [.lit (.int .i64 0), .lit (.int .i64 1), .lit (.int .i64 2), .lit (.int .i64 3), .lit (.int .i64 4), .lit (.int .i64 5), .lit (.int .i64 6), .lit (.int .i64 7), .lit (.int .i64 8), .lit (.int .i64 10), .lit (.int .i64 12), .lit (.int .i64 14), .lit (.int .i64 16), .lit (.int .i64 20), .lit (.int .i64 24), .lit (.int .i64 28), .lit (.int .i64 34), .lit (.int .i64 40), .lit (.int .i64 48), .lit (.int .i64 60)] []
def laid_madrigal_tabs_taps {H : Type} : DataW H := .agg [.agg [.lit (.int .i64 13), .lit (.int .i64 22), .lit (.int .i64 39), .lit (.int .i64 23), .lit (.int .i64 12)], .agg [.lit (.int .i64 (-1)), .lit (.int .i64 36), .lit (.int .i64 64), .lit (.int .i64 27), .lit (.int .i64 (-6))], .agg [.lit (.int .i64 4), .lit (.int .i64 6), .lit (.int .i64 24), .lit (.int .i64 7), .lit (.int .i64 5)], .agg [.lit (.int .i64 (-2)), .lit (.int .i64 6), .lit (.int .i64 118), .lit (.int .i64 7), .lit (.int .i64 (-3))], .agg [.lit (.int .i64 2), .lit (.int .i64 10), .lit (.int .i64 70), .lit (.int .i64 15), .lit (.int .i64 0)], .agg [.lit (.int .i64 (-9)), .lit (.int .i64 30), .lit (.int .i64 80), .lit (.int .i64 34), .lit (.int .i64 (-10))], .agg [.lit (.int .i64 0), .lit (.int .i64 0), .lit (.int .i64 96), .lit (.int .i64 0), .lit (.int .i64 0)], .agg [.lit (.int .i64 5), .lit (.int .i64 29), .lit (.int .i64 50), .lit (.int .i64 29), .lit (.int .i64 5)]]

/-- 'madrigallaw2.TabsNew': WHATEVER THE INPUT: true; the input reads as it did. -/
def tabsNewSpec : ChangeSpec := { name := "tabsNew", fn := fun _ => fun
  | [d1, d2, d3] => { results := [.lit (.bool true)], args := [d1, d2, d3] }
  | _ => none }
def tabsNewRow : OpenClaim := { program := "ytjcbcmloenhohabdoor", sum := "734215c726f6bdfef1698bd3e517095b39cbfe8230cd5031be0403529e64504d", func := "madrigal/madrigallaw2.TabsNew", spec := "tabsNew", named := ["madrigal/tabs.edges", "madrigal/tabs.taps"], apart := false, laid := [("madrigal/tabs.edges", laid_madrigal_tabs_edges), ("madrigal/tabs.taps", laid_madrigal_tabs_taps)] }
def TabsNewSaid : Prop := tabsNewRow.holds Tryd.pinned (OpenSpec.ofChange tabsNewSpec)

/-- ITS FALSE NEIGHBOUR: 'it returns false'. Refute it at one input. -/
def tabsNewWrong : ChangeSpec := { name := "tabsNew", fn := fun _ => fun
  | [d1, d2, d3] => { results := [.lit (.bool false)], args := [d1, d2, d3] }
  | _ => none }
def TabsNewWrongFalsely : Prop := tabsNewRow.holds Tryd.pinned (OpenSpec.ofChange tabsNewWrong)

/- THE SECOND FORM. 'bulk': how many values and letters a reading holds, each counted each time it is reached (what is shared counts as often as it is met; a slice's spare places count too). A statement '..UptoSaid' is the law's where the arguments, and the package variables that the reading takes, are together of bulk at most 1048576: NARROWER than '..Said'. Prove '..Said' where nothing that the law and all that it calls make is longer than what came in: it says more and counts as full. Else prove '..UptoSaid'. A law counts once. -/
mutual
def uptoBulk {H : Type} : DataW H → Nat
  | .lit (.string bytes) => bytes.length + 1
  | .lit _ => 1
  | .nil => 1
  | .ptr d => uptoBulk d + 1
  | .slice elems spare => uptoBulkAll elems + uptoBulkAll spare + 1
  | .agg parts => uptoBulkAll parts + 1
  | .iface _ d => uptoBulk d + 1
  | .map entries => uptoBulkEntries entries + 1
  | .held _ => 1
def uptoBulkAll {H : Type} : List (DataW H) → Nat
  | [] => 0
  | d :: r => uptoBulk d + uptoBulkAll r
def uptoBulkEntries {H : Type} : List (Lit × DataW H) → Nat
  | [] => 0
  | x :: r => uptoBulkEntry x + uptoBulkEntries r
def uptoBulkEntry {H : Type} : Lit × DataW H → Nat
  | (.string bytes, d) => bytes.length + uptoBulk d + 1
  | (_, d) => uptoBulk d + 1
 end
def uptoSmall : (H : Type) → List (DataW H) → Bool := fun _ ds => decide (uptoBulkAll ds ≤ 1048576)
def OpenSpec.upto (s : _root_.Go.ChangeSpec) : _root_.Go.OpenSpec := { _root_.Go.OpenSpec.ofChange s with cond := some uptoSmall }

/-- 'madrigallaw2.TabsNew', WHERE WHAT IT READS IS OF BULK AT MOST 1048576: true; the input reads as it did. -/
def tabsNewUptoRow : OpenClaim := { program := "ytjcbcmloenhohabdoor", sum := "734215c726f6bdfef1698bd3e517095b39cbfe8230cd5031be0403529e64504d", func := "madrigal/madrigallaw2.TabsNew", spec := "tabsNew", named := ["madrigal/tabs.edges", "madrigal/tabs.taps"], apart := false, laid := [("madrigal/tabs.edges", laid_madrigal_tabs_edges), ("madrigal/tabs.taps", laid_madrigal_tabs_taps)], narrowed := true }
def TabsNewUptoSaid : Prop := tabsNewUptoRow.holds Tryd.pinned (OpenSpec.upto tabsNewSpec)

end Rows
end Go.Proofs.YtjcbcmloenhohabDoor
