/-
  NARROWER THAN 'FOR EVERY INPUT', by the rows' own cells (each row's printed sentence says how): TocKnown: laid · TocParses: laid · TocPacks: laid · TocConfigs: laid · TocRepacks: laid · TocPads: laid.
  DERIVED. THE GIVEN ROWS OF THIS SEAT. 6 by the template 'for every input the law returns true; each argument reads behind the call as it read before'; 0 by the template 'total and deterministic' (their statements: YtgiellpepnbpcaaDoorTotals.lean).
  GIVEN WITH THE SEED: the statements are not yours to turn. If you find one false, say at which input.
  Laid BY PROGRAM, IN A SANDBOX (cutbox-rows.mjs): the forced cells as the released guide's own fill.sh prints them over the translation d59f334025b8957e… (all of the seat's roots in one cut). By AI agents, Wed Nov 11 2026. No macro, syntax, notation, axiom, sorry.
-/
import Derived.Test.YtgiellpepnbpcaaDoorChecked
import GoSem.Claim
import GoSem.ClaimJoined
import GoSem.ClaimMapViews
import Derived.JoinedTies
import Derived.KernelRfl
namespace Go.Proofs.YtgiellpepnbpcaaDoor
/- THE CELL 'sum', in the pinned program and in every row, IS THE sha256 OF THE DUMP (.gsa) THAT YtgiellpepnbpcaaDoorProg.lean LOADS. Nothing in Lean hashes anything: it is a label: what it is worth is what the hold of that sum in a sandbox is worth. -/
noncomputable def Tryd.pinned : Pinned := { name := "ytgiellpepnbpcaadoor", sum := "d59f334025b8957e870cf8be5f50feef59b03e139f8162f4c9ac48f854c87cae", checked := Tryd.checked }
namespace Rows
def none {H : Type} : Left H := { results := [], args := [] }

/- WHAT THE LISTED PACKAGE-LEVEL VARIABLES READ AS WHEN THE CALL BEGINS. Each datum BY PROGRAM (the guide's laid-datum.mjs) off the statement by which the dump's own 'gosem.cut.vars' lays the variable. In a bare row this is a premise. The card (YtgiellpepnbpcaaDoorCards.lean) ties it to the program's text. -/
def laid_madrigal_toc_configs {H : Type} : DataW H := .agg [.agg [.lit (.int .i64 0), .lit (.int .i64 8000), .lit (.int .i64 10)], .agg [.lit (.int .i64 0), .lit (.int .i64 8000), .lit (.int .i64 20)], .agg [.lit (.int .i64 0), .lit (.int .i64 16000), .lit (.int .i64 10)], .agg [.lit (.int .i64 0), .lit (.int .i64 16000), .lit (.int .i64 20)], .agg [.lit (.int .i64 1), .lit (.int .i64 24000), .lit (.int .i64 10)], .agg [.lit (.int .i64 1), .lit (.int .i64 24000), .lit (.int .i64 20)], .agg [.lit (.int .i64 2), .lit (.int .i64 8000), .lit (.int .i64 10)], .agg [.lit (.int .i64 2), .lit (.int .i64 8000), .lit (.int .i64 20)], .agg [.lit (.int .i64 2), .lit (.int .i64 16000), .lit (.int .i64 10)], .agg [.lit (.int .i64 2), .lit (.int .i64 16000), .lit (.int .i64 20)], .agg [.lit (.int .i64 2), .lit (.int .i64 24000), .lit (.int .i64 10)], .agg [.lit (.int .i64 2), .lit (.int .i64 24000), .lit (.int .i64 20)]]

/-- 'madrigallaw5.TocKnown': WHATEVER THE INPUT: true; the input reads as it did. -/
def tocKnownSpec : ChangeSpec := { name := "tocKnown", fn := fun _ => fun
  | [] => { results := [.lit (.bool true)], args := [] }
  | _ => none }
def tocKnownRow : OpenClaim := { program := "ytgiellpepnbpcaadoor", sum := "d59f334025b8957e870cf8be5f50feef59b03e139f8162f4c9ac48f854c87cae", func := "madrigal/madrigallaw5.TocKnown", spec := "tocKnown", named := ["madrigal/toc.configs"], apart := false, laid := [("madrigal/toc.configs", laid_madrigal_toc_configs)] }
def TocKnownSaid : Prop := tocKnownRow.holds Tryd.pinned (OpenSpec.ofChange tocKnownSpec)

/-- ITS FALSE NEIGHBOUR: 'it returns false'. Refute it at one input. -/
def tocKnownWrong : ChangeSpec := { name := "tocKnown", fn := fun _ => fun
  | [] => { results := [.lit (.bool false)], args := [] }
  | _ => none }
def TocKnownWrongFalsely : Prop := tocKnownRow.holds Tryd.pinned (OpenSpec.ofChange tocKnownWrong)

/-- 'madrigallaw5.TocParses': WHATEVER THE INPUT: true; the input reads as it did. -/
def tocParsesSpec : ChangeSpec := { name := "tocParses", fn := fun _ => fun
  | [d] => { results := [.lit (.bool true)], args := [d] }
  | _ => none }
def tocParsesRow : OpenClaim := { program := "ytgiellpepnbpcaadoor", sum := "d59f334025b8957e870cf8be5f50feef59b03e139f8162f4c9ac48f854c87cae", func := "madrigal/madrigallaw5.TocParses", spec := "tocParses", named := ["madrigal/toc.configs"], apart := false, laid := [("madrigal/toc.configs", laid_madrigal_toc_configs)] }
def TocParsesSaid : Prop := tocParsesRow.holds Tryd.pinned (OpenSpec.ofChange tocParsesSpec)

/-- ITS FALSE NEIGHBOUR: 'it returns false'. Refute it at one input. -/
def tocParsesWrong : ChangeSpec := { name := "tocParses", fn := fun _ => fun
  | [d] => { results := [.lit (.bool false)], args := [d] }
  | _ => none }
def TocParsesWrongFalsely : Prop := tocParsesRow.holds Tryd.pinned (OpenSpec.ofChange tocParsesWrong)

/-- 'madrigallaw5.TocPacks': WHATEVER THE INPUT: true; the input reads as it did. -/
def tocPacksSpec : ChangeSpec := { name := "tocPacks", fn := fun _ => fun
  | [d] => { results := [.lit (.bool true)], args := [d] }
  | _ => none }
def tocPacksRow : OpenClaim := { program := "ytgiellpepnbpcaadoor", sum := "d59f334025b8957e870cf8be5f50feef59b03e139f8162f4c9ac48f854c87cae", func := "madrigal/madrigallaw5.TocPacks", spec := "tocPacks", named := ["madrigal/toc.configs"], apart := false, laid := [("madrigal/toc.configs", laid_madrigal_toc_configs)] }
def TocPacksSaid : Prop := tocPacksRow.holds Tryd.pinned (OpenSpec.ofChange tocPacksSpec)

/-- ITS FALSE NEIGHBOUR: 'it returns false'. Refute it at one input. -/
def tocPacksWrong : ChangeSpec := { name := "tocPacks", fn := fun _ => fun
  | [d] => { results := [.lit (.bool false)], args := [d] }
  | _ => none }
def TocPacksWrongFalsely : Prop := tocPacksRow.holds Tryd.pinned (OpenSpec.ofChange tocPacksWrong)

/-- 'madrigallaw5.TocConfigs': WHATEVER THE INPUT: true; the input reads as it did. -/
def tocConfigsSpec : ChangeSpec := { name := "tocConfigs", fn := fun _ => fun
  | [d1, d2] => { results := [.lit (.bool true)], args := [d1, d2] }
  | _ => none }
def tocConfigsRow : OpenClaim := { program := "ytgiellpepnbpcaadoor", sum := "d59f334025b8957e870cf8be5f50feef59b03e139f8162f4c9ac48f854c87cae", func := "madrigal/madrigallaw5.TocConfigs", spec := "tocConfigs", named := ["madrigal/toc.configs"], apart := false, laid := [("madrigal/toc.configs", laid_madrigal_toc_configs)] }
def TocConfigsSaid : Prop := tocConfigsRow.holds Tryd.pinned (OpenSpec.ofChange tocConfigsSpec)

/-- ITS FALSE NEIGHBOUR: 'it returns false'. Refute it at one input. -/
def tocConfigsWrong : ChangeSpec := { name := "tocConfigs", fn := fun _ => fun
  | [d1, d2] => { results := [.lit (.bool false)], args := [d1, d2] }
  | _ => none }
def TocConfigsWrongFalsely : Prop := tocConfigsRow.holds Tryd.pinned (OpenSpec.ofChange tocConfigsWrong)

/-- 'madrigallaw5.TocRepacks': WHATEVER THE INPUT: true; the input reads as it did. -/
def tocRepacksSpec : ChangeSpec := { name := "tocRepacks", fn := fun _ => fun
  | [d] => { results := [.lit (.bool true)], args := [d] }
  | _ => none }
def tocRepacksRow : OpenClaim := { program := "ytgiellpepnbpcaadoor", sum := "d59f334025b8957e870cf8be5f50feef59b03e139f8162f4c9ac48f854c87cae", func := "madrigal/madrigallaw5.TocRepacks", spec := "tocRepacks", named := ["madrigal/toc.configs"], apart := false, laid := [("madrigal/toc.configs", laid_madrigal_toc_configs)] }
def TocRepacksSaid : Prop := tocRepacksRow.holds Tryd.pinned (OpenSpec.ofChange tocRepacksSpec)

/-- ITS FALSE NEIGHBOUR: 'it returns false'. Refute it at one input. -/
def tocRepacksWrong : ChangeSpec := { name := "tocRepacks", fn := fun _ => fun
  | [d] => { results := [.lit (.bool false)], args := [d] }
  | _ => none }
def TocRepacksWrongFalsely : Prop := tocRepacksRow.holds Tryd.pinned (OpenSpec.ofChange tocRepacksWrong)

/-- 'madrigallaw5.TocPads': WHATEVER THE INPUT: true; the input reads as it did. -/
def tocPadsSpec : ChangeSpec := { name := "tocPads", fn := fun _ => fun
  | [d1, d2] => { results := [.lit (.bool true)], args := [d1, d2] }
  | _ => none }
def tocPadsRow : OpenClaim := { program := "ytgiellpepnbpcaadoor", sum := "d59f334025b8957e870cf8be5f50feef59b03e139f8162f4c9ac48f854c87cae", func := "madrigal/madrigallaw5.TocPads", spec := "tocPads", named := ["madrigal/toc.configs"], apart := false, laid := [("madrigal/toc.configs", laid_madrigal_toc_configs)] }
def TocPadsSaid : Prop := tocPadsRow.holds Tryd.pinned (OpenSpec.ofChange tocPadsSpec)

/-- ITS FALSE NEIGHBOUR: 'it returns false'. Refute it at one input. -/
def tocPadsWrong : ChangeSpec := { name := "tocPads", fn := fun _ => fun
  | [d1, d2] => { results := [.lit (.bool false)], args := [d1, d2] }
  | _ => none }
def TocPadsWrongFalsely : Prop := tocPadsRow.holds Tryd.pinned (OpenSpec.ofChange tocPadsWrong)

/- THE SECOND FORM. 'bulk': how many values and letters a reading holds, each counted each time it is reached (what is shared counts as often as it is met; a slice's spare places count too). A statement '..UptoSaid' is the law's where the arguments, and the package variables that the reading takes, are together of bulk at most 1048576: NARROWER than '..Said'. Prove '..Said' where nothing that the law and all that it calls make is longer than what came in: it says more and counts as full. Else prove '..UptoSaid'. A law counts once. -/
mutual
def uptoBulk {H : Type} : DataW H → Nat
  | .lit (.string bytes) => bytes.length + 1
  | .lit _ => 1
  | .nil => 1
  | .ptr d => uptoBulk d + 1
  | .slice elems spare => uptoBulkAll elems + uptoBulkAll spare + 1
  | .agg parts => uptoBulkAll parts + 1
  | .iface _ d => uptoBulk d + 1
  | .map entries => uptoBulkEntries entries + 1
  | .held _ => 1
def uptoBulkAll {H : Type} : List (DataW H) → Nat
  | [] => 0
  | d :: r => uptoBulk d + uptoBulkAll r
def uptoBulkEntries {H : Type} : List (Lit × DataW H) → Nat
  | [] => 0
  | x :: r => uptoBulkEntry x + uptoBulkEntries r
def uptoBulkEntry {H : Type} : Lit × DataW H → Nat
  | (.string bytes, d) => bytes.length + uptoBulk d + 1
  | (_, d) => uptoBulk d + 1
 end
def uptoSmall : (H : Type) → List (DataW H) → Bool := fun _ ds => decide (uptoBulkAll ds ≤ 1048576)
def OpenSpec.upto (s : _root_.Go.ChangeSpec) : _root_.Go.OpenSpec := { _root_.Go.OpenSpec.ofChange s with cond := some uptoSmall }

/-- 'madrigallaw5.TocKnown', WHERE WHAT IT READS IS OF BULK AT MOST 1048576: true; the input reads as it did. -/
def tocKnownUptoRow : OpenClaim := { program := "ytgiellpepnbpcaadoor", sum := "d59f334025b8957e870cf8be5f50feef59b03e139f8162f4c9ac48f854c87cae", func := "madrigal/madrigallaw5.TocKnown", spec := "tocKnown", named := ["madrigal/toc.configs"], apart := false, laid := [("madrigal/toc.configs", laid_madrigal_toc_configs)], narrowed := true }
def TocKnownUptoSaid : Prop := tocKnownUptoRow.holds Tryd.pinned (OpenSpec.upto tocKnownSpec)

/-- 'madrigallaw5.TocParses', WHERE WHAT IT READS IS OF BULK AT MOST 1048576: true; the input reads as it did. -/
def tocParsesUptoRow : OpenClaim := { program := "ytgiellpepnbpcaadoor", sum := "d59f334025b8957e870cf8be5f50feef59b03e139f8162f4c9ac48f854c87cae", func := "madrigal/madrigallaw5.TocParses", spec := "tocParses", named := ["madrigal/toc.configs"], apart := false, laid := [("madrigal/toc.configs", laid_madrigal_toc_configs)], narrowed := true }
def TocParsesUptoSaid : Prop := tocParsesUptoRow.holds Tryd.pinned (OpenSpec.upto tocParsesSpec)

/-- 'madrigallaw5.TocPacks', WHERE WHAT IT READS IS OF BULK AT MOST 1048576: true; the input reads as it did. -/
def tocPacksUptoRow : OpenClaim := { program := "ytgiellpepnbpcaadoor", sum := "d59f334025b8957e870cf8be5f50feef59b03e139f8162f4c9ac48f854c87cae", func := "madrigal/madrigallaw5.TocPacks", spec := "tocPacks", named := ["madrigal/toc.configs"], apart := false, laid := [("madrigal/toc.configs", laid_madrigal_toc_configs)], narrowed := true }
def TocPacksUptoSaid : Prop := tocPacksUptoRow.holds Tryd.pinned (OpenSpec.upto tocPacksSpec)

/-- 'madrigallaw5.TocConfigs', WHERE WHAT IT READS IS OF BULK AT MOST 1048576: true; the input reads as it did. -/
def tocConfigsUptoRow : OpenClaim := { program := "ytgiellpepnbpcaadoor", sum := "d59f334025b8957e870cf8be5f50feef59b03e139f8162f4c9ac48f854c87cae", func := "madrigal/madrigallaw5.TocConfigs", spec := "tocConfigs", named := ["madrigal/toc.configs"], apart := false, laid := [("madrigal/toc.configs", laid_madrigal_toc_configs)], narrowed := true }
def TocConfigsUptoSaid : Prop := tocConfigsUptoRow.holds Tryd.pinned (OpenSpec.upto tocConfigsSpec)

/-- 'madrigallaw5.TocRepacks', WHERE WHAT IT READS IS OF BULK AT MOST 1048576: true; the input reads as it did. -/
def tocRepacksUptoRow : OpenClaim := { program := "ytgiellpepnbpcaadoor", sum := "d59f334025b8957e870cf8be5f50feef59b03e139f8162f4c9ac48f854c87cae", func := "madrigal/madrigallaw5.TocRepacks", spec := "tocRepacks", named := ["madrigal/toc.configs"], apart := false, laid := [("madrigal/toc.configs", laid_madrigal_toc_configs)], narrowed := true }
def TocRepacksUptoSaid : Prop := tocRepacksUptoRow.holds Tryd.pinned (OpenSpec.upto tocRepacksSpec)

/-- 'madrigallaw5.TocPads', WHERE WHAT IT READS IS OF BULK AT MOST 1048576: true; the input reads as it did. -/
def tocPadsUptoRow : OpenClaim := { program := "ytgiellpepnbpcaadoor", sum := "d59f334025b8957e870cf8be5f50feef59b03e139f8162f4c9ac48f854c87cae", func := "madrigal/madrigallaw5.TocPads", spec := "tocPads", named := ["madrigal/toc.configs"], apart := false, laid := [("madrigal/toc.configs", laid_madrigal_toc_configs)], narrowed := true }
def TocPadsUptoSaid : Prop := tocPadsUptoRow.holds Tryd.pinned (OpenSpec.upto tocPadsSpec)

end Rows
end Go.Proofs.YtgiellpepnbpcaaDoor
