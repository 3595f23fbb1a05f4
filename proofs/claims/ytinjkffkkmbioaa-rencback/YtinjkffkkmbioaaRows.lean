/-
  No cell of these rows narrows 'for every input' (looked for: loops, veiled, ifaces, maps, wideKeys, modest, calm, conditions, laid).
  DERIVED. THE GIVEN ROWS OF THIS SEAT. 6 by the template 'for every input the law returns true; each argument reads behind the call as it read before'; 0 by the template 'total and deterministic' (their statements: YtinjkffkkmbioaaTotals.lean).
  GIVEN WITH THE SEED: the statements are not yours to turn. If you find one false, say at which input.
  Laid BY PROGRAM, IN A SANDBOX (cutbox-rows.mjs): the forced cells as the released guide's own fill.sh prints them over the translation b90232fd7b26a9b3… (all of the seat's roots in one cut). By AI agents, Wed Nov 11 2026. No macro, syntax, notation, axiom, sorry.
-/
import Derived.Test.YtinjkffkkmbioaaChecked
import GoSem.Claim
import GoSem.ClaimJoined
import GoSem.ClaimMapViews
import Derived.JoinedTies
import Derived.KernelRfl
namespace Go.Proofs.Ytinjkffkkmbioaa
/- THE CELL 'sum', in the pinned program and in every row, IS THE sha256 OF THE DUMP (.gsa) THAT YtinjkffkkmbioaaProg.lean LOADS. Nothing in Lean hashes anything: it is a label: what it is worth is what the hold of that sum in a sandbox is worth. -/
noncomputable def Try.pinned : Pinned := { name := "ytinjkffkkmbioaa", sum := "b90232fd7b26a9b34c78cc1c79117d3386da95d8b89516f7a2473c8f0b065b43", checked := Try.checked }
namespace Rows
def none {H : Type} : Left H := { results := [], args := [] }

/-- 'madrigallaw4.RencKnown': WHATEVER THE INPUT: true; the input reads as it did. -/
def rencKnownSpec : ChangeSpec := { name := "rencKnown", fn := fun _ => fun
  | [] => { results := [.lit (.bool true)], args := [] }
  | _ => none }
def rencKnownRow : OpenClaim := { program := "ytinjkffkkmbioaa", sum := "b90232fd7b26a9b34c78cc1c79117d3386da95d8b89516f7a2473c8f0b065b43", func := "madrigal/madrigallaw4.RencKnown", spec := "rencKnown", apart := false }
def RencKnownSaid : Prop := rencKnownRow.holds Try.pinned (OpenSpec.ofChange rencKnownSpec)

/-- ITS FALSE NEIGHBOUR: 'it returns false'. Refute it at one input. -/
def rencKnownWrong : ChangeSpec := { name := "rencKnown", fn := fun _ => fun
  | [] => { results := [.lit (.bool false)], args := [] }
  | _ => none }
def RencKnownWrongFalsely : Prop := rencKnownRow.holds Try.pinned (OpenSpec.ofChange rencKnownWrong)

/-- 'madrigallaw4.RencBack': WHATEVER THE INPUT: true; the input reads as it did. -/
def rencBackSpec : ChangeSpec := { name := "rencBack", fn := fun _ => fun
  | [d1, d2] => { results := [.lit (.bool true)], args := [d1, d2] }
  | _ => none }
def rencBackRow : OpenClaim := { program := "ytinjkffkkmbioaa", sum := "b90232fd7b26a9b34c78cc1c79117d3386da95d8b89516f7a2473c8f0b065b43", func := "madrigal/madrigallaw4.RencBack", spec := "rencBack", apart := false }
def RencBackSaid : Prop := rencBackRow.holds Try.pinned (OpenSpec.ofChange rencBackSpec)

/-- ITS FALSE NEIGHBOUR: 'it returns false'. Refute it at one input. -/
def rencBackWrong : ChangeSpec := { name := "rencBack", fn := fun _ => fun
  | [d1, d2] => { results := [.lit (.bool false)], args := [d1, d2] }
  | _ => none }
def RencBackWrongFalsely : Prop := rencBackRow.holds Try.pinned (OpenSpec.ofChange rencBackWrong)

/-- 'madrigallaw4.RencTight': WHATEVER THE INPUT: true; the input reads as it did. -/
def rencTightSpec : ChangeSpec := { name := "rencTight", fn := fun _ => fun
  | [d] => { results := [.lit (.bool true)], args := [d] }
  | _ => none }
def rencTightRow : OpenClaim := { program := "ytinjkffkkmbioaa", sum := "b90232fd7b26a9b34c78cc1c79117d3386da95d8b89516f7a2473c8f0b065b43", func := "madrigal/madrigallaw4.RencTight", spec := "rencTight", apart := false }
def RencTightSaid : Prop := rencTightRow.holds Try.pinned (OpenSpec.ofChange rencTightSpec)

/-- ITS FALSE NEIGHBOUR: 'it returns false'. Refute it at one input. -/
def rencTightWrong : ChangeSpec := { name := "rencTight", fn := fun _ => fun
  | [d] => { results := [.lit (.bool false)], args := [d] }
  | _ => none }
def RencTightWrongFalsely : Prop := rencTightRow.holds Try.pinned (OpenSpec.ofChange rencTightWrong)

/-- 'madrigallaw4.RencLaplace': WHATEVER THE INPUT: true; the input reads as it did. -/
def rencLaplaceSpec : ChangeSpec := { name := "rencLaplace", fn := fun _ => fun
  | [d1, d2, d3] => { results := [.lit (.bool true)], args := [d1, d2, d3] }
  | _ => none }
def rencLaplaceRow : OpenClaim := { program := "ytinjkffkkmbioaa", sum := "b90232fd7b26a9b34c78cc1c79117d3386da95d8b89516f7a2473c8f0b065b43", func := "madrigal/madrigallaw4.RencLaplace", spec := "rencLaplace", apart := false }
def RencLaplaceSaid : Prop := rencLaplaceRow.holds Try.pinned (OpenSpec.ofChange rencLaplaceSpec)

/-- ITS FALSE NEIGHBOUR: 'it returns false'. Refute it at one input. -/
def rencLaplaceWrong : ChangeSpec := { name := "rencLaplace", fn := fun _ => fun
  | [d1, d2, d3] => { results := [.lit (.bool false)], args := [d1, d2, d3] }
  | _ => none }
def RencLaplaceWrongFalsely : Prop := rencLaplaceRow.holds Try.pinned (OpenSpec.ofChange rencLaplaceWrong)

/-- 'madrigallaw4.RencCopies': WHATEVER THE INPUT: true; the input reads as it did. -/
def rencCopiesSpec : ChangeSpec := { name := "rencCopies", fn := fun _ => fun
  | [d1, d2] => { results := [.lit (.bool true)], args := [d1, d2] }
  | _ => none }
def rencCopiesRow : OpenClaim := { program := "ytinjkffkkmbioaa", sum := "b90232fd7b26a9b34c78cc1c79117d3386da95d8b89516f7a2473c8f0b065b43", func := "madrigal/madrigallaw4.RencCopies", spec := "rencCopies", apart := false }
def RencCopiesSaid : Prop := rencCopiesRow.holds Try.pinned (OpenSpec.ofChange rencCopiesSpec)

/-- ITS FALSE NEIGHBOUR: 'it returns false'. Refute it at one input. -/
def rencCopiesWrong : ChangeSpec := { name := "rencCopies", fn := fun _ => fun
  | [d1, d2] => { results := [.lit (.bool false)], args := [d1, d2] }
  | _ => none }
def RencCopiesWrongFalsely : Prop := rencCopiesRow.holds Try.pinned (OpenSpec.ofChange rencCopiesWrong)

/-- 'madrigallaw4.RencRaw': WHATEVER THE INPUT: true; the input reads as it did. -/
def rencRawSpec : ChangeSpec := { name := "rencRaw", fn := fun _ => fun
  | [d1, d2] => { results := [.lit (.bool true)], args := [d1, d2] }
  | _ => none }
def rencRawRow : OpenClaim := { program := "ytinjkffkkmbioaa", sum := "b90232fd7b26a9b34c78cc1c79117d3386da95d8b89516f7a2473c8f0b065b43", func := "madrigal/madrigallaw4.RencRaw", spec := "rencRaw", apart := false }
def RencRawSaid : Prop := rencRawRow.holds Try.pinned (OpenSpec.ofChange rencRawSpec)

/-- ITS FALSE NEIGHBOUR: 'it returns false'. Refute it at one input. -/
def rencRawWrong : ChangeSpec := { name := "rencRaw", fn := fun _ => fun
  | [d1, d2] => { results := [.lit (.bool false)], args := [d1, d2] }
  | _ => none }
def RencRawWrongFalsely : Prop := rencRawRow.holds Try.pinned (OpenSpec.ofChange rencRawWrong)

/- THE SECOND FORM. 'bulk': how many values and letters a reading holds, each counted each time it is reached (what is shared counts as often as it is met; a slice's spare places count too). A statement '..UptoSaid' is the law's where the arguments, and the package variables that the reading takes, are together of bulk at most 1048576: NARROWER than '..Said'. Prove '..Said' where nothing that the law and all that it calls make is longer than what came in: it says more and counts as full. Else prove '..UptoSaid'. A law counts once. -/
mutual
def uptoBulk {H : Type} : DataW H → Nat
  | .lit (.string bytes) => bytes.length + 1
  | .lit _ => 1
  | .nil => 1
  | .ptr d => uptoBulk d + 1
  | .slice elems spare => uptoBulkAll elems + uptoBulkAll spare + 1
  | .agg parts => uptoBulkAll parts + 1
  | .iface _ d => uptoBulk d + 1
  | .map entries => uptoBulkEntries entries + 1
  | .held _ => 1
def uptoBulkAll {H : Type} : List (DataW H) → Nat
  | [] => 0
  | d :: r => uptoBulk d + uptoBulkAll r
def uptoBulkEntries {H : Type} : List (Lit × DataW H) → Nat
  | [] => 0
  | x :: r => uptoBulkEntry x + uptoBulkEntries r
def uptoBulkEntry {H : Type} : Lit × DataW H → Nat
  | (.string bytes, d) => bytes.length + uptoBulk d + 1
  | (_, d) => uptoBulk d + 1
 end
def uptoSmall : (H : Type) → List (DataW H) → Bool := fun _ ds => decide (uptoBulkAll ds ≤ 1048576)
def OpenSpec.upto (s : _root_.Go.ChangeSpec) : _root_.Go.OpenSpec := { _root_.Go.OpenSpec.ofChange s with cond := some uptoSmall }

/-- 'madrigallaw4.RencKnown', WHERE WHAT IT READS IS OF BULK AT MOST 1048576: true; the input reads as it did. -/
def rencKnownUptoRow : OpenClaim := { program := "ytinjkffkkmbioaa", sum := "b90232fd7b26a9b34c78cc1c79117d3386da95d8b89516f7a2473c8f0b065b43", func := "madrigal/madrigallaw4.RencKnown", spec := "rencKnown", apart := false, narrowed := true }
def RencKnownUptoSaid : Prop := rencKnownUptoRow.holds Try.pinned (OpenSpec.upto rencKnownSpec)

/-- 'madrigallaw4.RencBack', WHERE WHAT IT READS IS OF BULK AT MOST 1048576: true; the input reads as it did. -/
def rencBackUptoRow : OpenClaim := { program := "ytinjkffkkmbioaa", sum := "b90232fd7b26a9b34c78cc1c79117d3386da95d8b89516f7a2473c8f0b065b43", func := "madrigal/madrigallaw4.RencBack", spec := "rencBack", apart := false, narrowed := true }
def RencBackUptoSaid : Prop := rencBackUptoRow.holds Try.pinned (OpenSpec.upto rencBackSpec)

/-- 'madrigallaw4.RencTight', WHERE WHAT IT READS IS OF BULK AT MOST 1048576: true; the input reads as it did. -/
def rencTightUptoRow : OpenClaim := { program := "ytinjkffkkmbioaa", sum := "b90232fd7b26a9b34c78cc1c79117d3386da95d8b89516f7a2473c8f0b065b43", func := "madrigal/madrigallaw4.RencTight", spec := "rencTight", apart := false, narrowed := true }
def RencTightUptoSaid : Prop := rencTightUptoRow.holds Try.pinned (OpenSpec.upto rencTightSpec)

/-- 'madrigallaw4.RencLaplace', WHERE WHAT IT READS IS OF BULK AT MOST 1048576: true; the input reads as it did. -/
def rencLaplaceUptoRow : OpenClaim := { program := "ytinjkffkkmbioaa", sum := "b90232fd7b26a9b34c78cc1c79117d3386da95d8b89516f7a2473c8f0b065b43", func := "madrigal/madrigallaw4.RencLaplace", spec := "rencLaplace", apart := false, narrowed := true }
def RencLaplaceUptoSaid : Prop := rencLaplaceUptoRow.holds Try.pinned (OpenSpec.upto rencLaplaceSpec)

/-- 'madrigallaw4.RencCopies', WHERE WHAT IT READS IS OF BULK AT MOST 1048576: true; the input reads as it did. -/
def rencCopiesUptoRow : OpenClaim := { program := "ytinjkffkkmbioaa", sum := "b90232fd7b26a9b34c78cc1c79117d3386da95d8b89516f7a2473c8f0b065b43", func := "madrigal/madrigallaw4.RencCopies", spec := "rencCopies", apart := false, narrowed := true }
def RencCopiesUptoSaid : Prop := rencCopiesUptoRow.holds Try.pinned (OpenSpec.upto rencCopiesSpec)

/-- 'madrigallaw4.RencRaw', WHERE WHAT IT READS IS OF BULK AT MOST 1048576: true; the input reads as it did. -/
def rencRawUptoRow : OpenClaim := { program := "ytinjkffkkmbioaa", sum := "b90232fd7b26a9b34c78cc1c79117d3386da95d8b89516f7a2473c8f0b065b43", func := "madrigal/madrigallaw4.RencRaw", spec := "rencRaw", apart := false, narrowed := true }
def RencRawUptoSaid : Prop := rencRawUptoRow.holds Try.pinned (OpenSpec.upto rencRawSpec)

end Rows
end Go.Proofs.Ytinjkffkkmbioaa
