/-
  NARROWER THAN 'FOR EVERY INPUT', by the rows' own cells (each row's printed sentence says how): FixKnown: laid · FixSays: laid · FixHolds: laid · FixCircle: laid · FixRises: laid · FixQuotients: laid.
  DERIVED. THE GIVEN ROWS OF THIS SEAT. 6 by the template 'for every input the law returns true; each argument reads behind the call as it read before'; 0 by the template 'total and deterministic' (their statements: YtadbnbgjgabkdaaDoorTotals.lean).
  GIVEN WITH THE SEED: the statements are not yours to turn. If you find one false, say at which input.
  Laid BY PROGRAM, IN A SANDBOX (cutbox-rows.mjs): the forced cells as the released guide's own fill.sh prints them over the translation 070e0fe2a104f22f… (all of the seat's roots in one cut). By AI agents, Wed Nov 11 2026. No macro, syntax, notation, axiom, sorry.
-/
import Derived.Test.YtadbnbgjgabkdaaDoorChecked
import GoSem.Claim
import GoSem.ClaimJoined
import GoSem.ClaimMapViews
import Derived.JoinedTies
import Derived.KernelRfl
namespace Go.Proofs.YtadbnbgjgabkdaaDoor
/- THE CELL 'sum', in the pinned program and in every row, IS THE sha256 OF THE DUMP (.gsa) THAT YtadbnbgjgabkdaaDoorProg.lean LOADS. Nothing in Lean hashes anything: it is a label: what it is worth is what the hold of that sum in a sandbox is worth. -/
noncomputable def Tryd.pinned : Pinned := { name := "ytadbnbgjgabkdaadoor", sum := "070e0fe2a104f22f1cb6d12402191912326d4c1929891e2ea8cf66b7add7be1e", checked := Tryd.checked }
namespace Rows
def none {H : Type} : Left H := { results := [], args := [] }

/- WHAT THE LISTED PACKAGE-LEVEL VARIABLES READ AS WHEN THE CALL BEGINS. Each datum BY PROGRAM (the guide's laid-datum.mjs) off the statement by which the dump's own 'gosem.cut.vars' lays the variable. In a bare row this is a premise. The card (YtadbnbgjgabkdaaDoorCards.lean) ties it to the program's text. -/
def laid_madrigal_fix_roots {H : Type} : DataW H := .agg [.lit (.int .i64 1518500250), .lit (.int .i64 1276901417), .lit (.int .i64 1170923762), .lit (.int .i64 1121280436), .lit (.int .i64 1097253708), .lit (.int .i64 1085434106), .lit (.int .i64 1079572136), .lit (.int .i64 1076653033)]

/-- 'madrigallaw1.FixKnown': WHATEVER THE INPUT: true; the input reads as it did. -/
def fixKnownSpec : ChangeSpec := { name := "fixKnown", fn := fun _ => fun
  | [] => { results := [.lit (.bool true)], args := [] }
  | _ => none }
def fixKnownRow : OpenClaim := { program := "ytadbnbgjgabkdaadoor", sum := "070e0fe2a104f22f1cb6d12402191912326d4c1929891e2ea8cf66b7add7be1e", func := "madrigal/madrigallaw1.FixKnown", spec := "fixKnown", named := ["madrigal/fix.roots"], apart := false, laid := [("madrigal/fix.roots", laid_madrigal_fix_roots)] }
def FixKnownSaid : Prop := fixKnownRow.holds Tryd.pinned (OpenSpec.ofChange fixKnownSpec)

/-- ITS FALSE NEIGHBOUR: 'it returns false'. Refute it at one input. -/
def fixKnownWrong : ChangeSpec := { name := "fixKnown", fn := fun _ => fun
  | [] => { results := [.lit (.bool false)], args := [] }
  | _ => none }
def FixKnownWrongFalsely : Prop := fixKnownRow.holds Tryd.pinned (OpenSpec.ofChange fixKnownWrong)

/-- 'madrigallaw1.FixSays': WHATEVER THE INPUT: true; the input reads as it did. -/
def fixSaysSpec : ChangeSpec := { name := "fixSays", fn := fun _ => fun
  | [d1, d2, d3, d4, d5] => { results := [.lit (.bool true)], args := [d1, d2, d3, d4, d5] }
  | _ => none }
def fixSaysRow : OpenClaim := { program := "ytadbnbgjgabkdaadoor", sum := "070e0fe2a104f22f1cb6d12402191912326d4c1929891e2ea8cf66b7add7be1e", func := "madrigal/madrigallaw1.FixSays", spec := "fixSays", named := ["madrigal/fix.roots"], apart := false, laid := [("madrigal/fix.roots", laid_madrigal_fix_roots)] }
def FixSaysSaid : Prop := fixSaysRow.holds Tryd.pinned (OpenSpec.ofChange fixSaysSpec)

/-- ITS FALSE NEIGHBOUR: 'it returns false'. Refute it at one input. -/
def fixSaysWrong : ChangeSpec := { name := "fixSays", fn := fun _ => fun
  | [d1, d2, d3, d4, d5] => { results := [.lit (.bool false)], args := [d1, d2, d3, d4, d5] }
  | _ => none }
def FixSaysWrongFalsely : Prop := fixSaysRow.holds Tryd.pinned (OpenSpec.ofChange fixSaysWrong)

/-- 'madrigallaw1.FixHolds': WHATEVER THE INPUT: true; the input reads as it did. -/
def fixHoldsSpec : ChangeSpec := { name := "fixHolds", fn := fun _ => fun
  | [d1, d2] => { results := [.lit (.bool true)], args := [d1, d2] }
  | _ => none }
def fixHoldsRow : OpenClaim := { program := "ytadbnbgjgabkdaadoor", sum := "070e0fe2a104f22f1cb6d12402191912326d4c1929891e2ea8cf66b7add7be1e", func := "madrigal/madrigallaw1.FixHolds", spec := "fixHolds", named := ["madrigal/fix.roots"], apart := false, laid := [("madrigal/fix.roots", laid_madrigal_fix_roots)] }
def FixHoldsSaid : Prop := fixHoldsRow.holds Tryd.pinned (OpenSpec.ofChange fixHoldsSpec)

/-- ITS FALSE NEIGHBOUR: 'it returns false'. Refute it at one input. -/
def fixHoldsWrong : ChangeSpec := { name := "fixHolds", fn := fun _ => fun
  | [d1, d2] => { results := [.lit (.bool false)], args := [d1, d2] }
  | _ => none }
def FixHoldsWrongFalsely : Prop := fixHoldsRow.holds Tryd.pinned (OpenSpec.ofChange fixHoldsWrong)

/-- 'madrigallaw1.FixCircle': WHATEVER THE INPUT: true; the input reads as it did. -/
def fixCircleSpec : ChangeSpec := { name := "fixCircle", fn := fun _ => fun
  | [d] => { results := [.lit (.bool true)], args := [d] }
  | _ => none }
def fixCircleRow : OpenClaim := { program := "ytadbnbgjgabkdaadoor", sum := "070e0fe2a104f22f1cb6d12402191912326d4c1929891e2ea8cf66b7add7be1e", func := "madrigal/madrigallaw1.FixCircle", spec := "fixCircle", named := ["madrigal/fix.roots"], apart := false, laid := [("madrigal/fix.roots", laid_madrigal_fix_roots)] }
def FixCircleSaid : Prop := fixCircleRow.holds Tryd.pinned (OpenSpec.ofChange fixCircleSpec)

/-- ITS FALSE NEIGHBOUR: 'it returns false'. Refute it at one input. -/
def fixCircleWrong : ChangeSpec := { name := "fixCircle", fn := fun _ => fun
  | [d] => { results := [.lit (.bool false)], args := [d] }
  | _ => none }
def FixCircleWrongFalsely : Prop := fixCircleRow.holds Tryd.pinned (OpenSpec.ofChange fixCircleWrong)

/-- 'madrigallaw1.FixRises': WHATEVER THE INPUT: true; the input reads as it did. -/
def fixRisesSpec : ChangeSpec := { name := "fixRises", fn := fun _ => fun
  | [d1, d2, d3, d4] => { results := [.lit (.bool true)], args := [d1, d2, d3, d4] }
  | _ => none }
def fixRisesRow : OpenClaim := { program := "ytadbnbgjgabkdaadoor", sum := "070e0fe2a104f22f1cb6d12402191912326d4c1929891e2ea8cf66b7add7be1e", func := "madrigal/madrigallaw1.FixRises", spec := "fixRises", named := ["madrigal/fix.roots"], apart := false, laid := [("madrigal/fix.roots", laid_madrigal_fix_roots)] }
def FixRisesSaid : Prop := fixRisesRow.holds Tryd.pinned (OpenSpec.ofChange fixRisesSpec)

/-- ITS FALSE NEIGHBOUR: 'it returns false'. Refute it at one input. -/
def fixRisesWrong : ChangeSpec := { name := "fixRises", fn := fun _ => fun
  | [d1, d2, d3, d4] => { results := [.lit (.bool false)], args := [d1, d2, d3, d4] }
  | _ => none }
def FixRisesWrongFalsely : Prop := fixRisesRow.holds Tryd.pinned (OpenSpec.ofChange fixRisesWrong)

/-- 'madrigallaw1.FixQuotients': WHATEVER THE INPUT: true; the input reads as it did. -/
def fixQuotientsSpec : ChangeSpec := { name := "fixQuotients", fn := fun _ => fun
  | [d1, d2, d3] => { results := [.lit (.bool true)], args := [d1, d2, d3] }
  | _ => none }
def fixQuotientsRow : OpenClaim := { program := "ytadbnbgjgabkdaadoor", sum := "070e0fe2a104f22f1cb6d12402191912326d4c1929891e2ea8cf66b7add7be1e", func := "madrigal/madrigallaw1.FixQuotients", spec := "fixQuotients", named := ["madrigal/fix.roots"], apart := false, laid := [("madrigal/fix.roots", laid_madrigal_fix_roots)] }
def FixQuotientsSaid : Prop := fixQuotientsRow.holds Tryd.pinned (OpenSpec.ofChange fixQuotientsSpec)

/-- ITS FALSE NEIGHBOUR: 'it returns false'. Refute it at one input. -/
def fixQuotientsWrong : ChangeSpec := { name := "fixQuotients", fn := fun _ => fun
  | [d1, d2, d3] => { results := [.lit (.bool false)], args := [d1, d2, d3] }
  | _ => none }
def FixQuotientsWrongFalsely : Prop := fixQuotientsRow.holds Tryd.pinned (OpenSpec.ofChange fixQuotientsWrong)

/- THE SECOND FORM. 'bulk': how many values and letters a reading holds, each counted each time it is reached (what is shared counts as often as it is met; a slice's spare places count too). A statement '..UptoSaid' is the law's where the arguments, and the package variables that the reading takes, are together of bulk at most 1048576: NARROWER than '..Said'. Prove '..Said' where nothing that the law and all that it calls make is longer than what came in: it says more and counts as full. Else prove '..UptoSaid'. A law counts once. -/
mutual
def uptoBulk {H : Type} : DataW H → Nat
  | .lit (.string bytes) => bytes.length + 1
  | .lit _ => 1
  | .nil => 1
  | .ptr d => uptoBulk d + 1
  | .slice elems spare => uptoBulkAll elems + uptoBulkAll spare + 1
  | .agg parts => uptoBulkAll parts + 1
  | .iface _ d => uptoBulk d + 1
  | .map entries => uptoBulkEntries entries + 1
  | .held _ => 1
def uptoBulkAll {H : Type} : List (DataW H) → Nat
  | [] => 0
  | d :: r => uptoBulk d + uptoBulkAll r
def uptoBulkEntries {H : Type} : List (Lit × DataW H) → Nat
  | [] => 0
  | x :: r => uptoBulkEntry x + uptoBulkEntries r
def uptoBulkEntry {H : Type} : Lit × DataW H → Nat
  | (.string bytes, d) => bytes.length + uptoBulk d + 1
  | (_, d) => uptoBulk d + 1
 end
def uptoSmall : (H : Type) → List (DataW H) → Bool := fun _ ds => decide (uptoBulkAll ds ≤ 1048576)
def OpenSpec.upto (s : _root_.Go.ChangeSpec) : _root_.Go.OpenSpec := { _root_.Go.OpenSpec.ofChange s with cond := some uptoSmall }

/-- 'madrigallaw1.FixKnown', WHERE WHAT IT READS IS OF BULK AT MOST 1048576: true; the input reads as it did. -/
def fixKnownUptoRow : OpenClaim := { program := "ytadbnbgjgabkdaadoor", sum := "070e0fe2a104f22f1cb6d12402191912326d4c1929891e2ea8cf66b7add7be1e", func := "madrigal/madrigallaw1.FixKnown", spec := "fixKnown", named := ["madrigal/fix.roots"], apart := false, laid := [("madrigal/fix.roots", laid_madrigal_fix_roots)], narrowed := true }
def FixKnownUptoSaid : Prop := fixKnownUptoRow.holds Tryd.pinned (OpenSpec.upto fixKnownSpec)

/-- 'madrigallaw1.FixSays', WHERE WHAT IT READS IS OF BULK AT MOST 1048576: true; the input reads as it did. -/
def fixSaysUptoRow : OpenClaim := { program := "ytadbnbgjgabkdaadoor", sum := "070e0fe2a104f22f1cb6d12402191912326d4c1929891e2ea8cf66b7add7be1e", func := "madrigal/madrigallaw1.FixSays", spec := "fixSays", named := ["madrigal/fix.roots"], apart := false, laid := [("madrigal/fix.roots", laid_madrigal_fix_roots)], narrowed := true }
def FixSaysUptoSaid : Prop := fixSaysUptoRow.holds Tryd.pinned (OpenSpec.upto fixSaysSpec)

/-- 'madrigallaw1.FixHolds', WHERE WHAT IT READS IS OF BULK AT MOST 1048576: true; the input reads as it did. -/
def fixHoldsUptoRow : OpenClaim := { program := "ytadbnbgjgabkdaadoor", sum := "070e0fe2a104f22f1cb6d12402191912326d4c1929891e2ea8cf66b7add7be1e", func := "madrigal/madrigallaw1.FixHolds", spec := "fixHolds", named := ["madrigal/fix.roots"], apart := false, laid := [("madrigal/fix.roots", laid_madrigal_fix_roots)], narrowed := true }
def FixHoldsUptoSaid : Prop := fixHoldsUptoRow.holds Tryd.pinned (OpenSpec.upto fixHoldsSpec)

/-- 'madrigallaw1.FixCircle', WHERE WHAT IT READS IS OF BULK AT MOST 1048576: true; the input reads as it did. -/
def fixCircleUptoRow : OpenClaim := { program := "ytadbnbgjgabkdaadoor", sum := "070e0fe2a104f22f1cb6d12402191912326d4c1929891e2ea8cf66b7add7be1e", func := "madrigal/madrigallaw1.FixCircle", spec := "fixCircle", named := ["madrigal/fix.roots"], apart := false, laid := [("madrigal/fix.roots", laid_madrigal_fix_roots)], narrowed := true }
def FixCircleUptoSaid : Prop := fixCircleUptoRow.holds Tryd.pinned (OpenSpec.upto fixCircleSpec)

/-- 'madrigallaw1.FixRises', WHERE WHAT IT READS IS OF BULK AT MOST 1048576: true; the input reads as it did. -/
def fixRisesUptoRow : OpenClaim := { program := "ytadbnbgjgabkdaadoor", sum := "070e0fe2a104f22f1cb6d12402191912326d4c1929891e2ea8cf66b7add7be1e", func := "madrigal/madrigallaw1.FixRises", spec := "fixRises", named := ["madrigal/fix.roots"], apart := false, laid := [("madrigal/fix.roots", laid_madrigal_fix_roots)], narrowed := true }
def FixRisesUptoSaid : Prop := fixRisesUptoRow.holds Tryd.pinned (OpenSpec.upto fixRisesSpec)

/-- 'madrigallaw1.FixQuotients', WHERE WHAT IT READS IS OF BULK AT MOST 1048576: true; the input reads as it did. -/
def fixQuotientsUptoRow : OpenClaim := { program := "ytadbnbgjgabkdaadoor", sum := "070e0fe2a104f22f1cb6d12402191912326d4c1929891e2ea8cf66b7add7be1e", func := "madrigal/madrigallaw1.FixQuotients", spec := "fixQuotients", named := ["madrigal/fix.roots"], apart := false, laid := [("madrigal/fix.roots", laid_madrigal_fix_roots)], narrowed := true }
def FixQuotientsUptoSaid : Prop := fixQuotientsUptoRow.holds Tryd.pinned (OpenSpec.upto fixQuotientsSpec)

end Rows
end Go.Proofs.YtadbnbgjgabkdaaDoor
