/-
  No cell of these rows narrows 'for every input' (looked for: loops, veiled, ifaces, maps, wideKeys, modest, calm, conditions, laid).
  DERIVED. THE GIVEN ROWS OF THIS SEAT. 6 by the template 'for every input the law returns true; each argument reads behind the call as it read before'; 0 by the template 'total and deterministic' (their statements: YtfdfknfbnbeloaaTotals.lean).
  GIVEN WITH THE SEED: the statements are not yours to turn. If you find one false, say at which input.
  Laid BY PROGRAM, IN A SANDBOX (cutbox-rows.mjs): the forced cells as the released guide's own fill.sh prints them over the translation b7a9b46083104bd9… (all of the seat's roots in one cut). By AI agents, Wed Nov 11 2026. No macro, syntax, notation, axiom, sorry.
-/
import Derived.Test.YtfdfknfbnbeloaaChecked
import GoSem.Claim
import GoSem.ClaimJoined
import GoSem.ClaimMapViews
import Derived.JoinedTies
import Derived.KernelRfl
namespace Go.Proofs.Ytfdfknfbnbeloaa
/- THE CELL 'sum', in the pinned program and in every row, IS THE sha256 OF THE DUMP (.gsa) THAT YtfdfknfbnbeloaaProg.lean LOADS. Nothing in Lean hashes anything: it is a label: what it is worth is what the hold of that sum in a sandbox is worth. -/
noncomputable def Try.pinned : Pinned := { name := "ytfdfknfbnbeloaa", sum := "b7a9b46083104bd978eef013225b3dff40e772d8e49826385006d200e8fa19b2", checked := Try.checked }
namespace Rows
def none {H : Type} : Left H := { results := [], args := [] }

/-- 'madrigallaw3.RcKnown': WHATEVER THE INPUT: true; the input reads as it did. -/
def rcKnownSpec : ChangeSpec := { name := "rcKnown", fn := fun _ => fun
  | [] => { results := [.lit (.bool true)], args := [] }
  | _ => none }
def rcKnownRow : OpenClaim := { program := "ytfdfknfbnbeloaa", sum := "b7a9b46083104bd978eef013225b3dff40e772d8e49826385006d200e8fa19b2", func := "madrigal/madrigallaw3.RcKnown", spec := "rcKnown", apart := false }
def RcKnownSaid : Prop := rcKnownRow.holds Try.pinned (OpenSpec.ofChange rcKnownSpec)

/-- ITS FALSE NEIGHBOUR: 'it returns false'. Refute it at one input. -/
def rcKnownWrong : ChangeSpec := { name := "rcKnown", fn := fun _ => fun
  | [] => { results := [.lit (.bool false)], args := [] }
  | _ => none }
def RcKnownWrongFalsely : Prop := rcKnownRow.holds Try.pinned (OpenSpec.ofChange rcKnownWrong)

/-- 'madrigallaw3.RcReads': WHATEVER THE INPUT: true; the input reads as it did. -/
def rcReadsSpec : ChangeSpec := { name := "rcReads", fn := fun _ => fun
  | [d1, d2] => { results := [.lit (.bool true)], args := [d1, d2] }
  | _ => none }
def rcReadsRow : OpenClaim := { program := "ytfdfknfbnbeloaa", sum := "b7a9b46083104bd978eef013225b3dff40e772d8e49826385006d200e8fa19b2", func := "madrigal/madrigallaw3.RcReads", spec := "rcReads", apart := false }
def RcReadsSaid : Prop := rcReadsRow.holds Try.pinned (OpenSpec.ofChange rcReadsSpec)

/-- ITS FALSE NEIGHBOUR: 'it returns false'. Refute it at one input. -/
def rcReadsWrong : ChangeSpec := { name := "rcReads", fn := fun _ => fun
  | [d1, d2] => { results := [.lit (.bool false)], args := [d1, d2] }
  | _ => none }
def RcReadsWrongFalsely : Prop := rcReadsRow.holds Try.pinned (OpenSpec.ofChange rcReadsWrong)

/-- 'madrigallaw3.RcBounds': WHATEVER THE INPUT: true; the input reads as it did. -/
def rcBoundsSpec : ChangeSpec := { name := "rcBounds", fn := fun _ => fun
  | [d1, d2] => { results := [.lit (.bool true)], args := [d1, d2] }
  | _ => none }
def rcBoundsRow : OpenClaim := { program := "ytfdfknfbnbeloaa", sum := "b7a9b46083104bd978eef013225b3dff40e772d8e49826385006d200e8fa19b2", func := "madrigal/madrigallaw3.RcBounds", spec := "rcBounds", apart := false }
def RcBoundsSaid : Prop := rcBoundsRow.holds Try.pinned (OpenSpec.ofChange rcBoundsSpec)

/-- ITS FALSE NEIGHBOUR: 'it returns false'. Refute it at one input. -/
def rcBoundsWrong : ChangeSpec := { name := "rcBounds", fn := fun _ => fun
  | [d1, d2] => { results := [.lit (.bool false)], args := [d1, d2] }
  | _ => none }
def RcBoundsWrongFalsely : Prop := rcBoundsRow.holds Try.pinned (OpenSpec.ofChange rcBoundsWrong)

/-- 'madrigallaw3.RcFront': WHATEVER THE INPUT: true; the input reads as it did. -/
def rcFrontSpec : ChangeSpec := { name := "rcFront", fn := fun _ => fun
  | [d1, d2, d3] => { results := [.lit (.bool true)], args := [d1, d2, d3] }
  | _ => none }
def rcFrontRow : OpenClaim := { program := "ytfdfknfbnbeloaa", sum := "b7a9b46083104bd978eef013225b3dff40e772d8e49826385006d200e8fa19b2", func := "madrigal/madrigallaw3.RcFront", spec := "rcFront", apart := false }
def RcFrontSaid : Prop := rcFrontRow.holds Try.pinned (OpenSpec.ofChange rcFrontSpec)

/-- ITS FALSE NEIGHBOUR: 'it returns false'. Refute it at one input. -/
def rcFrontWrong : ChangeSpec := { name := "rcFront", fn := fun _ => fun
  | [d1, d2, d3] => { results := [.lit (.bool false)], args := [d1, d2, d3] }
  | _ => none }
def RcFrontWrongFalsely : Prop := rcFrontRow.holds Try.pinned (OpenSpec.ofChange rcFrontWrong)

/-- 'madrigallaw3.RcTwins': WHATEVER THE INPUT: true; the input reads as it did. -/
def rcTwinsSpec : ChangeSpec := { name := "rcTwins", fn := fun _ => fun
  | [d1, d2] => { results := [.lit (.bool true)], args := [d1, d2] }
  | _ => none }
def rcTwinsRow : OpenClaim := { program := "ytfdfknfbnbeloaa", sum := "b7a9b46083104bd978eef013225b3dff40e772d8e49826385006d200e8fa19b2", func := "madrigal/madrigallaw3.RcTwins", spec := "rcTwins", apart := false }
def RcTwinsSaid : Prop := rcTwinsRow.holds Try.pinned (OpenSpec.ofChange rcTwinsSpec)

/-- ITS FALSE NEIGHBOUR: 'it returns false'. Refute it at one input. -/
def rcTwinsWrong : ChangeSpec := { name := "rcTwins", fn := fun _ => fun
  | [d1, d2] => { results := [.lit (.bool false)], args := [d1, d2] }
  | _ => none }
def RcTwinsWrongFalsely : Prop := rcTwinsRow.holds Try.pinned (OpenSpec.ofChange rcTwinsWrong)

/-- 'madrigallaw3.RcRaw': WHATEVER THE INPUT: true; the input reads as it did. -/
def rcRawSpec : ChangeSpec := { name := "rcRaw", fn := fun _ => fun
  | [d1, d2] => { results := [.lit (.bool true)], args := [d1, d2] }
  | _ => none }
def rcRawRow : OpenClaim := { program := "ytfdfknfbnbeloaa", sum := "b7a9b46083104bd978eef013225b3dff40e772d8e49826385006d200e8fa19b2", func := "madrigal/madrigallaw3.RcRaw", spec := "rcRaw", apart := false }
def RcRawSaid : Prop := rcRawRow.holds Try.pinned (OpenSpec.ofChange rcRawSpec)

/-- ITS FALSE NEIGHBOUR: 'it returns false'. Refute it at one input. -/
def rcRawWrong : ChangeSpec := { name := "rcRaw", fn := fun _ => fun
  | [d1, d2] => { results := [.lit (.bool false)], args := [d1, d2] }
  | _ => none }
def RcRawWrongFalsely : Prop := rcRawRow.holds Try.pinned (OpenSpec.ofChange rcRawWrong)

/- THE SECOND FORM. 'bulk': how many values and letters a reading holds, each counted each time it is reached (what is shared counts as often as it is met; a slice's spare places count too). A statement '..UptoSaid' is the law's where the arguments, and the package variables that the reading takes, are together of bulk at most 1048576: NARROWER than '..Said'. Prove '..Said' where nothing that the law and all that it calls make is longer than what came in: it says more and counts as full. Else prove '..UptoSaid'. A law counts once. -/
mutual
def uptoBulk {H : Type} : DataW H → Nat
  | .lit (.string bytes) => bytes.length + 1
  | .lit _ => 1
  | .nil => 1
  | .ptr d => uptoBulk d + 1
  | .slice elems spare => uptoBulkAll elems + uptoBulkAll spare + 1
  | .agg parts => uptoBulkAll parts + 1
  | .iface _ d => uptoBulk d + 1
  | .map entries => uptoBulkEntries entries + 1
  | .held _ => 1
def uptoBulkAll {H : Type} : List (DataW H) → Nat
  | [] => 0
  | d :: r => uptoBulk d + uptoBulkAll r
def uptoBulkEntries {H : Type} : List (Lit × DataW H) → Nat
  | [] => 0
  | x :: r => uptoBulkEntry x + uptoBulkEntries r
def uptoBulkEntry {H : Type} : Lit × DataW H → Nat
  | (.string bytes, d) => bytes.length + uptoBulk d + 1
  | (_, d) => uptoBulk d + 1
 end
def uptoSmall : (H : Type) → List (DataW H) → Bool := fun _ ds => decide (uptoBulkAll ds ≤ 1048576)
def OpenSpec.upto (s : _root_.Go.ChangeSpec) : _root_.Go.OpenSpec := { _root_.Go.OpenSpec.ofChange s with cond := some uptoSmall }

/-- 'madrigallaw3.RcKnown', WHERE WHAT IT READS IS OF BULK AT MOST 1048576: true; the input reads as it did. -/
def rcKnownUptoRow : OpenClaim := { program := "ytfdfknfbnbeloaa", sum := "b7a9b46083104bd978eef013225b3dff40e772d8e49826385006d200e8fa19b2", func := "madrigal/madrigallaw3.RcKnown", spec := "rcKnown", apart := false, narrowed := true }
def RcKnownUptoSaid : Prop := rcKnownUptoRow.holds Try.pinned (OpenSpec.upto rcKnownSpec)

/-- 'madrigallaw3.RcReads', WHERE WHAT IT READS IS OF BULK AT MOST 1048576: true; the input reads as it did. -/
def rcReadsUptoRow : OpenClaim := { program := "ytfdfknfbnbeloaa", sum := "b7a9b46083104bd978eef013225b3dff40e772d8e49826385006d200e8fa19b2", func := "madrigal/madrigallaw3.RcReads", spec := "rcReads", apart := false, narrowed := true }
def RcReadsUptoSaid : Prop := rcReadsUptoRow.holds Try.pinned (OpenSpec.upto rcReadsSpec)

/-- 'madrigallaw3.RcBounds', WHERE WHAT IT READS IS OF BULK AT MOST 1048576: true; the input reads as it did. -/
def rcBoundsUptoRow : OpenClaim := { program := "ytfdfknfbnbeloaa", sum := "b7a9b46083104bd978eef013225b3dff40e772d8e49826385006d200e8fa19b2", func := "madrigal/madrigallaw3.RcBounds", spec := "rcBounds", apart := false, narrowed := true }
def RcBoundsUptoSaid : Prop := rcBoundsUptoRow.holds Try.pinned (OpenSpec.upto rcBoundsSpec)

/-- 'madrigallaw3.RcFront', WHERE WHAT IT READS IS OF BULK AT MOST 1048576: true; the input reads as it did. -/
def rcFrontUptoRow : OpenClaim := { program := "ytfdfknfbnbeloaa", sum := "b7a9b46083104bd978eef013225b3dff40e772d8e49826385006d200e8fa19b2", func := "madrigal/madrigallaw3.RcFront", spec := "rcFront", apart := false, narrowed := true }
def RcFrontUptoSaid : Prop := rcFrontUptoRow.holds Try.pinned (OpenSpec.upto rcFrontSpec)

/-- 'madrigallaw3.RcTwins', WHERE WHAT IT READS IS OF BULK AT MOST 1048576: true; the input reads as it did. -/
def rcTwinsUptoRow : OpenClaim := { program := "ytfdfknfbnbeloaa", sum := "b7a9b46083104bd978eef013225b3dff40e772d8e49826385006d200e8fa19b2", func := "madrigal/madrigallaw3.RcTwins", spec := "rcTwins", apart := false, narrowed := true }
def RcTwinsUptoSaid : Prop := rcTwinsUptoRow.holds Try.pinned (OpenSpec.upto rcTwinsSpec)

/-- 'madrigallaw3.RcRaw', WHERE WHAT IT READS IS OF BULK AT MOST 1048576: true; the input reads as it did. -/
def rcRawUptoRow : OpenClaim := { program := "ytfdfknfbnbeloaa", sum := "b7a9b46083104bd978eef013225b3dff40e772d8e49826385006d200e8fa19b2", func := "madrigal/madrigallaw3.RcRaw", spec := "rcRaw", apart := false, narrowed := true }
def RcRawUptoSaid : Prop := rcRawUptoRow.holds Try.pinned (OpenSpec.upto rcRawSpec)

end Rows
end Go.Proofs.Ytfdfknfbnbeloaa
