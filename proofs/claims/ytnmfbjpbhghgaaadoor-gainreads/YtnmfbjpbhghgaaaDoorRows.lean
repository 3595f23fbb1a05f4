/-
  NARROWER THAN 'FOR EVERY INPUT', by the rows' own cells (each row's printed sentence says how): GainKnown: laid · GainReads: laid · GainBack: laid · GainRises: laid · GainNear: laid.
  DERIVED. THE GIVEN ROWS OF THIS SEAT. 5 by the template 'for every input the law returns true; each argument reads behind the call as it read before'; 0 by the template 'total and deterministic' (their statements: YtnmfbjpbhghgaaaDoorTotals.lean).
  GIVEN WITH THE SEED: the statements are not yours to turn. If you find one false, say at which input.
  Laid BY PROGRAM, IN A SANDBOX (cutbox-rows.mjs): the forced cells as the released guide's own fill.sh prints them over the translation ab54bd11246892c7… (all of the seat's roots in one cut). By AI agents, Wed Nov 11 2026. No macro, syntax, notation, axiom, sorry.
-/
import Derived.Test.YtnmfbjpbhghgaaaDoorChecked
import GoSem.Claim
import GoSem.ClaimJoined
import GoSem.ClaimMapViews
import Derived.JoinedTies
import Derived.KernelRfl
namespace Go.Proofs.YtnmfbjpbhghgaaaDoor
/- THE CELL 'sum', in the pinned program and in every row, IS THE sha256 OF THE DUMP (.gsa) THAT YtnmfbjpbhghgaaaDoorProg.lean LOADS. Nothing in Lean hashes anything: it is a label: what it is worth is what the hold of that sum in a sandbox is worth. -/
noncomputable def Tryd.pinned : Pinned := { name := "ytnmfbjpbhghgaaadoor", sum := "ab54bd11246892c7f455776500c8b2786b65abd836ab0d90d33a42d61fcf43cd", checked := Tryd.checked }
namespace Rows
def none {H : Type} : Left H := { results := [], args := [] }

/- WHAT THE LISTED PACKAGE-LEVEL VARIABLES READ AS WHEN THE CALL BEGINS. Each datum BY PROGRAM (the guide's laid-datum.mjs) off the statement by which the dump's own 'gosem.cut.vars' lays the variable. In a bare row this is a premise. The card (YtnmfbjpbhghgaaaDoorCards.lean) ties it to the program's text. -/
def laid_madrigal_fix_roots {H : Type} : DataW H := .agg [.lit (.int .i64 1518500250), .lit (.int .i64 1276901417), .lit (.int .i64 1170923762), .lit (.int .i64 1121280436), .lit (.int .i64 1097253708), .lit (.int .i64 1085434106), .lit (.int .i64 1079572136), .lit (.int .i64 1076653033)]

/-- 'madrigallaw8.GainKnown': WHATEVER THE INPUT: true; the input reads as it did. -/
def gainKnownSpec : ChangeSpec := { name := "gainKnown", fn := fun _ => fun
  | [] => { results := [.lit (.bool true)], args := [] }
  | _ => none }
def gainKnownRow : OpenClaim := { program := "ytnmfbjpbhghgaaadoor", sum := "ab54bd11246892c7f455776500c8b2786b65abd836ab0d90d33a42d61fcf43cd", func := "madrigal/madrigallaw8.GainKnown", spec := "gainKnown", unfollowed := true, recurses := true, named := ["madrigal/fix.roots"], apart := false, laid := [("madrigal/fix.roots", laid_madrigal_fix_roots)] }
def GainKnownSaid : Prop := gainKnownRow.holds Tryd.pinned (OpenSpec.ofChange gainKnownSpec)

/-- ITS FALSE NEIGHBOUR: 'it returns false'. Refute it at one input. -/
def gainKnownWrong : ChangeSpec := { name := "gainKnown", fn := fun _ => fun
  | [] => { results := [.lit (.bool false)], args := [] }
  | _ => none }
def GainKnownWrongFalsely : Prop := gainKnownRow.holds Tryd.pinned (OpenSpec.ofChange gainKnownWrong)

/-- 'madrigallaw8.GainReads': WHATEVER THE INPUT: true; the input reads as it did. -/
def gainReadsSpec : ChangeSpec := { name := "gainReads", fn := fun _ => fun
  | [d1, d2, d3, d4, d5] => { results := [.lit (.bool true)], args := [d1, d2, d3, d4, d5] }
  | _ => none }
def gainReadsRow : OpenClaim := { program := "ytnmfbjpbhghgaaadoor", sum := "ab54bd11246892c7f455776500c8b2786b65abd836ab0d90d33a42d61fcf43cd", func := "madrigal/madrigallaw8.GainReads", spec := "gainReads", unfollowed := true, recurses := true, named := ["madrigal/fix.roots"], apart := false, laid := [("madrigal/fix.roots", laid_madrigal_fix_roots)] }
def GainReadsSaid : Prop := gainReadsRow.holds Tryd.pinned (OpenSpec.ofChange gainReadsSpec)

/-- ITS FALSE NEIGHBOUR: 'it returns false'. Refute it at one input. -/
def gainReadsWrong : ChangeSpec := { name := "gainReads", fn := fun _ => fun
  | [d1, d2, d3, d4, d5] => { results := [.lit (.bool false)], args := [d1, d2, d3, d4, d5] }
  | _ => none }
def GainReadsWrongFalsely : Prop := gainReadsRow.holds Tryd.pinned (OpenSpec.ofChange gainReadsWrong)

/-- 'madrigallaw8.GainBack': WHATEVER THE INPUT: true; the input reads as it did. -/
def gainBackSpec : ChangeSpec := { name := "gainBack", fn := fun _ => fun
  | [d1, d2, d3] => { results := [.lit (.bool true)], args := [d1, d2, d3] }
  | _ => none }
def gainBackRow : OpenClaim := { program := "ytnmfbjpbhghgaaadoor", sum := "ab54bd11246892c7f455776500c8b2786b65abd836ab0d90d33a42d61fcf43cd", func := "madrigal/madrigallaw8.GainBack", spec := "gainBack", unfollowed := true, recurses := true, named := ["madrigal/fix.roots"], apart := false, laid := [("madrigal/fix.roots", laid_madrigal_fix_roots)] }
def GainBackSaid : Prop := gainBackRow.holds Tryd.pinned (OpenSpec.ofChange gainBackSpec)

/-- ITS FALSE NEIGHBOUR: 'it returns false'. Refute it at one input. -/
def gainBackWrong : ChangeSpec := { name := "gainBack", fn := fun _ => fun
  | [d1, d2, d3] => { results := [.lit (.bool false)], args := [d1, d2, d3] }
  | _ => none }
def GainBackWrongFalsely : Prop := gainBackRow.holds Tryd.pinned (OpenSpec.ofChange gainBackWrong)

/-- 'madrigallaw8.GainRises': WHATEVER THE INPUT: true; the input reads as it did. -/
def gainRisesSpec : ChangeSpec := { name := "gainRises", fn := fun _ => fun
  | [d1, d2] => { results := [.lit (.bool true)], args := [d1, d2] }
  | _ => none }
def gainRisesRow : OpenClaim := { program := "ytnmfbjpbhghgaaadoor", sum := "ab54bd11246892c7f455776500c8b2786b65abd836ab0d90d33a42d61fcf43cd", func := "madrigal/madrigallaw8.GainRises", spec := "gainRises", unfollowed := true, recurses := true, named := ["madrigal/fix.roots"], apart := false, laid := [("madrigal/fix.roots", laid_madrigal_fix_roots)] }
def GainRisesSaid : Prop := gainRisesRow.holds Tryd.pinned (OpenSpec.ofChange gainRisesSpec)

/-- ITS FALSE NEIGHBOUR: 'it returns false'. Refute it at one input. -/
def gainRisesWrong : ChangeSpec := { name := "gainRises", fn := fun _ => fun
  | [d1, d2] => { results := [.lit (.bool false)], args := [d1, d2] }
  | _ => none }
def GainRisesWrongFalsely : Prop := gainRisesRow.holds Tryd.pinned (OpenSpec.ofChange gainRisesWrong)

/-- 'madrigallaw8.GainNear': WHATEVER THE INPUT: true; the input reads as it did. -/
def gainNearSpec : ChangeSpec := { name := "gainNear", fn := fun _ => fun
  | [d] => { results := [.lit (.bool true)], args := [d] }
  | _ => none }
def gainNearRow : OpenClaim := { program := "ytnmfbjpbhghgaaadoor", sum := "ab54bd11246892c7f455776500c8b2786b65abd836ab0d90d33a42d61fcf43cd", func := "madrigal/madrigallaw8.GainNear", spec := "gainNear", unfollowed := true, recurses := true, named := ["madrigal/fix.roots"], apart := false, laid := [("madrigal/fix.roots", laid_madrigal_fix_roots)] }
def GainNearSaid : Prop := gainNearRow.holds Tryd.pinned (OpenSpec.ofChange gainNearSpec)

/-- ITS FALSE NEIGHBOUR: 'it returns false'. Refute it at one input. -/
def gainNearWrong : ChangeSpec := { name := "gainNear", fn := fun _ => fun
  | [d] => { results := [.lit (.bool false)], args := [d] }
  | _ => none }
def GainNearWrongFalsely : Prop := gainNearRow.holds Tryd.pinned (OpenSpec.ofChange gainNearWrong)

/- THE SECOND FORM. 'bulk': how many values and letters a reading holds, each counted each time it is reached (what is shared counts as often as it is met; a slice's spare places count too). A statement '..UptoSaid' is the law's where the arguments, and the package variables that the reading takes, are together of bulk at most 1048576: NARROWER than '..Said'. Prove '..Said' where nothing that the law and all that it calls make is longer than what came in: it says more and counts as full. Else prove '..UptoSaid'. A law counts once. -/
mutual
def uptoBulk {H : Type} : DataW H → Nat
  | .lit (.string bytes) => bytes.length + 1
  | .lit _ => 1
  | .nil => 1
  | .ptr d => uptoBulk d + 1
  | .slice elems spare => uptoBulkAll elems + uptoBulkAll spare + 1
  | .agg parts => uptoBulkAll parts + 1
  | .iface _ d => uptoBulk d + 1
  | .map entries => uptoBulkEntries entries + 1
  | .held _ => 1
def uptoBulkAll {H : Type} : List (DataW H) → Nat
  | [] => 0
  | d :: r => uptoBulk d + uptoBulkAll r
def uptoBulkEntries {H : Type} : List (Lit × DataW H) → Nat
  | [] => 0
  | x :: r => uptoBulkEntry x + uptoBulkEntries r
def uptoBulkEntry {H : Type} : Lit × DataW H → Nat
  | (.string bytes, d) => bytes.length + uptoBulk d + 1
  | (_, d) => uptoBulk d + 1
 end
def uptoSmall : (H : Type) → List (DataW H) → Bool := fun _ ds => decide (uptoBulkAll ds ≤ 1048576)
def OpenSpec.upto (s : _root_.Go.ChangeSpec) : _root_.Go.OpenSpec := { _root_.Go.OpenSpec.ofChange s with cond := some uptoSmall }

/-- 'madrigallaw8.GainKnown', WHERE WHAT IT READS IS OF BULK AT MOST 1048576: true; the input reads as it did. -/
def gainKnownUptoRow : OpenClaim := { program := "ytnmfbjpbhghgaaadoor", sum := "ab54bd11246892c7f455776500c8b2786b65abd836ab0d90d33a42d61fcf43cd", func := "madrigal/madrigallaw8.GainKnown", spec := "gainKnown", unfollowed := true, recurses := true, named := ["madrigal/fix.roots"], apart := false, laid := [("madrigal/fix.roots", laid_madrigal_fix_roots)], narrowed := true }
def GainKnownUptoSaid : Prop := gainKnownUptoRow.holds Tryd.pinned (OpenSpec.upto gainKnownSpec)

/-- 'madrigallaw8.GainReads', WHERE WHAT IT READS IS OF BULK AT MOST 1048576: true; the input reads as it did. -/
def gainReadsUptoRow : OpenClaim := { program := "ytnmfbjpbhghgaaadoor", sum := "ab54bd11246892c7f455776500c8b2786b65abd836ab0d90d33a42d61fcf43cd", func := "madrigal/madrigallaw8.GainReads", spec := "gainReads", unfollowed := true, recurses := true, named := ["madrigal/fix.roots"], apart := false, laid := [("madrigal/fix.roots", laid_madrigal_fix_roots)], narrowed := true }
def GainReadsUptoSaid : Prop := gainReadsUptoRow.holds Tryd.pinned (OpenSpec.upto gainReadsSpec)

/-- 'madrigallaw8.GainBack', WHERE WHAT IT READS IS OF BULK AT MOST 1048576: true; the input reads as it did. -/
def gainBackUptoRow : OpenClaim := { program := "ytnmfbjpbhghgaaadoor", sum := "ab54bd11246892c7f455776500c8b2786b65abd836ab0d90d33a42d61fcf43cd", func := "madrigal/madrigallaw8.GainBack", spec := "gainBack", unfollowed := true, recurses := true, named := ["madrigal/fix.roots"], apart := false, laid := [("madrigal/fix.roots", laid_madrigal_fix_roots)], narrowed := true }
def GainBackUptoSaid : Prop := gainBackUptoRow.holds Tryd.pinned (OpenSpec.upto gainBackSpec)

/-- 'madrigallaw8.GainRises', WHERE WHAT IT READS IS OF BULK AT MOST 1048576: true; the input reads as it did. -/
def gainRisesUptoRow : OpenClaim := { program := "ytnmfbjpbhghgaaadoor", sum := "ab54bd11246892c7f455776500c8b2786b65abd836ab0d90d33a42d61fcf43cd", func := "madrigal/madrigallaw8.GainRises", spec := "gainRises", unfollowed := true, recurses := true, named := ["madrigal/fix.roots"], apart := false, laid := [("madrigal/fix.roots", laid_madrigal_fix_roots)], narrowed := true }
def GainRisesUptoSaid : Prop := gainRisesUptoRow.holds Tryd.pinned (OpenSpec.upto gainRisesSpec)

/-- 'madrigallaw8.GainNear', WHERE WHAT IT READS IS OF BULK AT MOST 1048576: true; the input reads as it did. -/
def gainNearUptoRow : OpenClaim := { program := "ytnmfbjpbhghgaaadoor", sum := "ab54bd11246892c7f455776500c8b2786b65abd836ab0d90d33a42d61fcf43cd", func := "madrigal/madrigallaw8.GainNear", spec := "gainNear", unfollowed := true, recurses := true, named := ["madrigal/fix.roots"], apart := false, laid := [("madrigal/fix.roots", laid_madrigal_fix_roots)], narrowed := true }
def GainNearUptoSaid : Prop := gainNearUptoRow.holds Tryd.pinned (OpenSpec.upto gainNearSpec)

end Rows
end Go.Proofs.YtnmfbjpbhghgaaaDoor
