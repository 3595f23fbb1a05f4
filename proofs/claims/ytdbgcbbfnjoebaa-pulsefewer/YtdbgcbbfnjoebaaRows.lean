/-
  No cell of these rows narrows 'for every input' (looked for: loops, veiled, ifaces, maps, wideKeys, modest, calm, conditions, laid).
  DERIVED. THE GIVEN ROWS OF THIS SEAT. 6 by the template 'for every input the law returns true; each argument reads behind the call as it read before'; 0 by the template 'total and deterministic' (their statements: YtdbgcbbfnjoebaaTotals.lean).
  GIVEN WITH THE SEED: the statements are not yours to turn. If you find one false, say at which input.
  Laid BY PROGRAM, IN A SANDBOX (cutbox-rows.mjs): the forced cells as the released guide's own fill.sh prints them over the translation 9d9d22bc5d53ce13… (all of the seat's roots in one cut). By AI agents, Wed Nov 11 2026. No macro, syntax, notation, axiom, sorry.
-/
import Derived.Test.YtdbgcbbfnjoebaaChecked
import GoSem.Claim
import GoSem.ClaimJoined
import GoSem.ClaimMapViews
import Derived.JoinedTies
import Derived.KernelRfl
namespace Go.Proofs.Ytdbgcbbfnjoebaa
/- THE CELL 'sum', in the pinned program and in every row, IS THE sha256 OF THE DUMP (.gsa) THAT YtdbgcbbfnjoebaaProg.lean LOADS. Nothing in Lean hashes anything: it is a label: what it is worth is what the hold of that sum in a sandbox is worth. -/
noncomputable def Try.pinned : Pinned := { name := "ytdbgcbbfnjoebaa", sum := "9d9d22bc5d53ce13aba2b7d4201c2348a7cbf014490276b88a1981748bd8c56f", checked := Try.checked }
namespace Rows
def none {H : Type} : Left H := { results := [], args := [] }

/-- 'madrigallaw9.PulseKnown': WHATEVER THE INPUT: true; the input reads as it did. -/
def pulseKnownSpec : ChangeSpec := { name := "pulseKnown", fn := fun _ => fun
  | [] => { results := [.lit (.bool true)], args := [] }
  | _ => none }
def pulseKnownRow : OpenClaim := { program := "ytdbgcbbfnjoebaa", sum := "9d9d22bc5d53ce13aba2b7d4201c2348a7cbf014490276b88a1981748bd8c56f", func := "madrigal/madrigallaw9.PulseKnown", spec := "pulseKnown", unfollowed := true, recurses := true, apart := false }
def PulseKnownSaid : Prop := pulseKnownRow.holds Try.pinned (OpenSpec.ofChange pulseKnownSpec)

/-- ITS FALSE NEIGHBOUR: 'it returns false'. Refute it at one input. -/
def pulseKnownWrong : ChangeSpec := { name := "pulseKnown", fn := fun _ => fun
  | [] => { results := [.lit (.bool false)], args := [] }
  | _ => none }
def PulseKnownWrongFalsely : Prop := pulseKnownRow.holds Try.pinned (OpenSpec.ofChange pulseKnownWrong)

/-- 'madrigallaw9.PulseReads': WHATEVER THE INPUT: true; the input reads as it did. -/
def pulseReadsSpec : ChangeSpec := { name := "pulseReads", fn := fun _ => fun
  | [d1, d2] => { results := [.lit (.bool true)], args := [d1, d2] }
  | _ => none }
def pulseReadsRow : OpenClaim := { program := "ytdbgcbbfnjoebaa", sum := "9d9d22bc5d53ce13aba2b7d4201c2348a7cbf014490276b88a1981748bd8c56f", func := "madrigal/madrigallaw9.PulseReads", spec := "pulseReads", unfollowed := true, recurses := true, apart := false }
def PulseReadsSaid : Prop := pulseReadsRow.holds Try.pinned (OpenSpec.ofChange pulseReadsSpec)

/-- ITS FALSE NEIGHBOUR: 'it returns false'. Refute it at one input. -/
def pulseReadsWrong : ChangeSpec := { name := "pulseReads", fn := fun _ => fun
  | [d1, d2] => { results := [.lit (.bool false)], args := [d1, d2] }
  | _ => none }
def PulseReadsWrongFalsely : Prop := pulseReadsRow.holds Try.pinned (OpenSpec.ofChange pulseReadsWrong)

/-- 'madrigallaw9.PulseBack': WHATEVER THE INPUT: true; the input reads as it did. -/
def pulseBackSpec : ChangeSpec := { name := "pulseBack", fn := fun _ => fun
  | [d] => { results := [.lit (.bool true)], args := [d] }
  | _ => none }
def pulseBackRow : OpenClaim := { program := "ytdbgcbbfnjoebaa", sum := "9d9d22bc5d53ce13aba2b7d4201c2348a7cbf014490276b88a1981748bd8c56f", func := "madrigal/madrigallaw9.PulseBack", spec := "pulseBack", unfollowed := true, recurses := true, apart := false }
def PulseBackSaid : Prop := pulseBackRow.holds Try.pinned (OpenSpec.ofChange pulseBackSpec)

/-- ITS FALSE NEIGHBOUR: 'it returns false'. Refute it at one input. -/
def pulseBackWrong : ChangeSpec := { name := "pulseBack", fn := fun _ => fun
  | [d] => { results := [.lit (.bool false)], args := [d] }
  | _ => none }
def PulseBackWrongFalsely : Prop := pulseBackRow.holds Try.pinned (OpenSpec.ofChange pulseBackWrong)

/-- 'madrigallaw9.PulseFewer': WHATEVER THE INPUT: true; the input reads as it did. -/
def pulseFewerSpec : ChangeSpec := { name := "pulseFewer", fn := fun _ => fun
  | [d1, d2] => { results := [.lit (.bool true)], args := [d1, d2] }
  | _ => none }
def pulseFewerRow : OpenClaim := { program := "ytdbgcbbfnjoebaa", sum := "9d9d22bc5d53ce13aba2b7d4201c2348a7cbf014490276b88a1981748bd8c56f", func := "madrigal/madrigallaw9.PulseFewer", spec := "pulseFewer", unfollowed := true, recurses := true, apart := false }
def PulseFewerSaid : Prop := pulseFewerRow.holds Try.pinned (OpenSpec.ofChange pulseFewerSpec)

/-- ITS FALSE NEIGHBOUR: 'it returns false'. Refute it at one input. -/
def pulseFewerWrong : ChangeSpec := { name := "pulseFewer", fn := fun _ => fun
  | [d1, d2] => { results := [.lit (.bool false)], args := [d1, d2] }
  | _ => none }
def PulseFewerWrongFalsely : Prop := pulseFewerRow.holds Try.pinned (OpenSpec.ofChange pulseFewerWrong)

/-- 'madrigallaw9.PulseLeast': WHATEVER THE INPUT: true; the input reads as it did. -/
def pulseLeastSpec : ChangeSpec := { name := "pulseLeast", fn := fun _ => fun
  | [d1, d2, d3] => { results := [.lit (.bool true)], args := [d1, d2, d3] }
  | _ => none }
def pulseLeastRow : OpenClaim := { program := "ytdbgcbbfnjoebaa", sum := "9d9d22bc5d53ce13aba2b7d4201c2348a7cbf014490276b88a1981748bd8c56f", func := "madrigal/madrigallaw9.PulseLeast", spec := "pulseLeast", unfollowed := true, recurses := true, apart := false }
def PulseLeastSaid : Prop := pulseLeastRow.holds Try.pinned (OpenSpec.ofChange pulseLeastSpec)

/-- ITS FALSE NEIGHBOUR: 'it returns false'. Refute it at one input. -/
def pulseLeastWrong : ChangeSpec := { name := "pulseLeast", fn := fun _ => fun
  | [d1, d2, d3] => { results := [.lit (.bool false)], args := [d1, d2, d3] }
  | _ => none }
def PulseLeastWrongFalsely : Prop := pulseLeastRow.holds Try.pinned (OpenSpec.ofChange pulseLeastWrong)

/-- 'madrigallaw9.PulseSilent': WHATEVER THE INPUT: true; the input reads as it did. -/
def pulseSilentSpec : ChangeSpec := { name := "pulseSilent", fn := fun _ => fun
  | [d1, d2, d3] => { results := [.lit (.bool true)], args := [d1, d2, d3] }
  | _ => none }
def pulseSilentRow : OpenClaim := { program := "ytdbgcbbfnjoebaa", sum := "9d9d22bc5d53ce13aba2b7d4201c2348a7cbf014490276b88a1981748bd8c56f", func := "madrigal/madrigallaw9.PulseSilent", spec := "pulseSilent", unfollowed := true, recurses := true, apart := false }
def PulseSilentSaid : Prop := pulseSilentRow.holds Try.pinned (OpenSpec.ofChange pulseSilentSpec)

/-- ITS FALSE NEIGHBOUR: 'it returns false'. Refute it at one input. -/
def pulseSilentWrong : ChangeSpec := { name := "pulseSilent", fn := fun _ => fun
  | [d1, d2, d3] => { results := [.lit (.bool false)], args := [d1, d2, d3] }
  | _ => none }
def PulseSilentWrongFalsely : Prop := pulseSilentRow.holds Try.pinned (OpenSpec.ofChange pulseSilentWrong)

/- THE SECOND FORM. 'bulk': how many values and letters a reading holds, each counted each time it is reached (what is shared counts as often as it is met; a slice's spare places count too). A statement '..UptoSaid' is the law's where the arguments, and the package variables that the reading takes, are together of bulk at most 1048576: NARROWER than '..Said'. Prove '..Said' where nothing that the law and all that it calls make is longer than what came in: it says more and counts as full. Else prove '..UptoSaid'. A law counts once. -/
mutual
def uptoBulk {H : Type} : DataW H → Nat
  | .lit (.string bytes) => bytes.length + 1
  | .lit _ => 1
  | .nil => 1
  | .ptr d => uptoBulk d + 1
  | .slice elems spare => uptoBulkAll elems + uptoBulkAll spare + 1
  | .agg parts => uptoBulkAll parts + 1
  | .iface _ d => uptoBulk d + 1
  | .map entries => uptoBulkEntries entries + 1
  | .held _ => 1
def uptoBulkAll {H : Type} : List (DataW H) → Nat
  | [] => 0
  | d :: r => uptoBulk d + uptoBulkAll r
def uptoBulkEntries {H : Type} : List (Lit × DataW H) → Nat
  | [] => 0
  | x :: r => uptoBulkEntry x + uptoBulkEntries r
def uptoBulkEntry {H : Type} : Lit × DataW H → Nat
  | (.string bytes, d) => bytes.length + uptoBulk d + 1
  | (_, d) => uptoBulk d + 1
 end
def uptoSmall : (H : Type) → List (DataW H) → Bool := fun _ ds => decide (uptoBulkAll ds ≤ 1048576)
def OpenSpec.upto (s : _root_.Go.ChangeSpec) : _root_.Go.OpenSpec := { _root_.Go.OpenSpec.ofChange s with cond := some uptoSmall }

/-- 'madrigallaw9.PulseKnown', WHERE WHAT IT READS IS OF BULK AT MOST 1048576: true; the input reads as it did. -/
def pulseKnownUptoRow : OpenClaim := { program := "ytdbgcbbfnjoebaa", sum := "9d9d22bc5d53ce13aba2b7d4201c2348a7cbf014490276b88a1981748bd8c56f", func := "madrigal/madrigallaw9.PulseKnown", spec := "pulseKnown", unfollowed := true, recurses := true, apart := false, narrowed := true }
def PulseKnownUptoSaid : Prop := pulseKnownUptoRow.holds Try.pinned (OpenSpec.upto pulseKnownSpec)

/-- 'madrigallaw9.PulseReads', WHERE WHAT IT READS IS OF BULK AT MOST 1048576: true; the input reads as it did. -/
def pulseReadsUptoRow : OpenClaim := { program := "ytdbgcbbfnjoebaa", sum := "9d9d22bc5d53ce13aba2b7d4201c2348a7cbf014490276b88a1981748bd8c56f", func := "madrigal/madrigallaw9.PulseReads", spec := "pulseReads", unfollowed := true, recurses := true, apart := false, narrowed := true }
def PulseReadsUptoSaid : Prop := pulseReadsUptoRow.holds Try.pinned (OpenSpec.upto pulseReadsSpec)

/-- 'madrigallaw9.PulseBack', WHERE WHAT IT READS IS OF BULK AT MOST 1048576: true; the input reads as it did. -/
def pulseBackUptoRow : OpenClaim := { program := "ytdbgcbbfnjoebaa", sum := "9d9d22bc5d53ce13aba2b7d4201c2348a7cbf014490276b88a1981748bd8c56f", func := "madrigal/madrigallaw9.PulseBack", spec := "pulseBack", unfollowed := true, recurses := true, apart := false, narrowed := true }
def PulseBackUptoSaid : Prop := pulseBackUptoRow.holds Try.pinned (OpenSpec.upto pulseBackSpec)

/-- 'madrigallaw9.PulseFewer', WHERE WHAT IT READS IS OF BULK AT MOST 1048576: true; the input reads as it did. -/
def pulseFewerUptoRow : OpenClaim := { program := "ytdbgcbbfnjoebaa", sum := "9d9d22bc5d53ce13aba2b7d4201c2348a7cbf014490276b88a1981748bd8c56f", func := "madrigal/madrigallaw9.PulseFewer", spec := "pulseFewer", unfollowed := true, recurses := true, apart := false, narrowed := true }
def PulseFewerUptoSaid : Prop := pulseFewerUptoRow.holds Try.pinned (OpenSpec.upto pulseFewerSpec)

/-- 'madrigallaw9.PulseLeast', WHERE WHAT IT READS IS OF BULK AT MOST 1048576: true; the input reads as it did. -/
def pulseLeastUptoRow : OpenClaim := { program := "ytdbgcbbfnjoebaa", sum := "9d9d22bc5d53ce13aba2b7d4201c2348a7cbf014490276b88a1981748bd8c56f", func := "madrigal/madrigallaw9.PulseLeast", spec := "pulseLeast", unfollowed := true, recurses := true, apart := false, narrowed := true }
def PulseLeastUptoSaid : Prop := pulseLeastUptoRow.holds Try.pinned (OpenSpec.upto pulseLeastSpec)

/-- 'madrigallaw9.PulseSilent', WHERE WHAT IT READS IS OF BULK AT MOST 1048576: true; the input reads as it did. -/
def pulseSilentUptoRow : OpenClaim := { program := "ytdbgcbbfnjoebaa", sum := "9d9d22bc5d53ce13aba2b7d4201c2348a7cbf014490276b88a1981748bd8c56f", func := "madrigal/madrigallaw9.PulseSilent", spec := "pulseSilent", unfollowed := true, recurses := true, apart := false, narrowed := true }
def PulseSilentUptoSaid : Prop := pulseSilentUptoRow.holds Try.pinned (OpenSpec.upto pulseSilentSpec)

end Rows
end Go.Proofs.Ytdbgcbbfnjoebaa
