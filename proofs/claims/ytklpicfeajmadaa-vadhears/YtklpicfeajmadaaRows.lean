/-
  No cell of these rows narrows 'for every input' (looked for: loops, veiled, ifaces, maps, wideKeys, modest, calm, conditions, laid).
  DERIVED. THE GIVEN ROWS OF THIS SEAT. 4 by the template 'for every input the law returns true; each argument reads behind the call as it read before'; 0 by the template 'total and deterministic' (their statements: YtklpicfeajmadaaTotals.lean).
  GIVEN WITH THE SEED: the statements are not yours to turn. If you find one false, say at which input.
  Laid BY PROGRAM, IN A SANDBOX (cutbox-rows.mjs): the forced cells as the released guide's own fill.sh prints them over the translation 6f1fc4a214c663a7… (all of the seat's roots in one cut). By AI agents, Wed Nov 11 2026. No macro, syntax, notation, axiom, sorry.
-/
import Derived.Test.YtklpicfeajmadaaChecked
import GoSem.Claim
import GoSem.ClaimJoined
import GoSem.ClaimMapViews
import Derived.JoinedTies
import Derived.KernelRfl
namespace Go.Proofs.Ytklpicfeajmadaa
/- THE CELL 'sum', in the pinned program and in every row, IS THE sha256 OF THE DUMP (.gsa) THAT YtklpicfeajmadaaProg.lean LOADS. Nothing in Lean hashes anything: it is a label: what it is worth is what the hold of that sum in a sandbox is worth. -/
noncomputable def Try.pinned : Pinned := { name := "ytklpicfeajmadaa", sum := "6f1fc4a214c663a7e96dd3a3185d09cc7bda7052a3ee5a224043b0cb02cf7177", checked := Try.checked }
namespace Rows
def none {H : Type} : Left H := { results := [], args := [] }

/-- 'madrigallaw13.VadKnown': WHATEVER THE INPUT: true; the input reads as it did. -/
def vadKnownSpec : ChangeSpec := { name := "vadKnown", fn := fun _ => fun
  | [] => { results := [.lit (.bool true)], args := [] }
  | _ => none }
def vadKnownRow : OpenClaim := { program := "ytklpicfeajmadaa", sum := "6f1fc4a214c663a7e96dd3a3185d09cc7bda7052a3ee5a224043b0cb02cf7177", func := "madrigal/madrigallaw13.VadKnown", spec := "vadKnown", unfollowed := true, recurses := true, apart := false }
def VadKnownSaid : Prop := vadKnownRow.holds Try.pinned (OpenSpec.ofChange vadKnownSpec)

/-- ITS FALSE NEIGHBOUR: 'it returns false'. Refute it at one input. -/
def vadKnownWrong : ChangeSpec := { name := "vadKnown", fn := fun _ => fun
  | [] => { results := [.lit (.bool false)], args := [] }
  | _ => none }
def VadKnownWrongFalsely : Prop := vadKnownRow.holds Try.pinned (OpenSpec.ofChange vadKnownWrong)

/-- 'madrigallaw13.VadHears': WHATEVER THE INPUT: true; the input reads as it did. -/
def vadHearsSpec : ChangeSpec := { name := "vadHears", fn := fun _ => fun
  | [d] => { results := [.lit (.bool true)], args := [d] }
  | _ => none }
def vadHearsRow : OpenClaim := { program := "ytklpicfeajmadaa", sum := "6f1fc4a214c663a7e96dd3a3185d09cc7bda7052a3ee5a224043b0cb02cf7177", func := "madrigal/madrigallaw13.VadHears", spec := "vadHears", unfollowed := true, recurses := true, apart := false }
def VadHearsSaid : Prop := vadHearsRow.holds Try.pinned (OpenSpec.ofChange vadHearsSpec)

/-- ITS FALSE NEIGHBOUR: 'it returns false'. Refute it at one input. -/
def vadHearsWrong : ChangeSpec := { name := "vadHears", fn := fun _ => fun
  | [d] => { results := [.lit (.bool false)], args := [d] }
  | _ => none }
def VadHearsWrongFalsely : Prop := vadHearsRow.holds Try.pinned (OpenSpec.ofChange vadHearsWrong)

/-- 'madrigallaw13.VadFades': WHATEVER THE INPUT: true; the input reads as it did. -/
def vadFadesSpec : ChangeSpec := { name := "vadFades", fn := fun _ => fun
  | [d1, d2] => { results := [.lit (.bool true)], args := [d1, d2] }
  | _ => none }
def vadFadesRow : OpenClaim := { program := "ytklpicfeajmadaa", sum := "6f1fc4a214c663a7e96dd3a3185d09cc7bda7052a3ee5a224043b0cb02cf7177", func := "madrigal/madrigallaw13.VadFades", spec := "vadFades", unfollowed := true, recurses := true, apart := false }
def VadFadesSaid : Prop := vadFadesRow.holds Try.pinned (OpenSpec.ofChange vadFadesSpec)

/-- ITS FALSE NEIGHBOUR: 'it returns false'. Refute it at one input. -/
def vadFadesWrong : ChangeSpec := { name := "vadFades", fn := fun _ => fun
  | [d1, d2] => { results := [.lit (.bool false)], args := [d1, d2] }
  | _ => none }
def VadFadesWrongFalsely : Prop := vadFadesRow.holds Try.pinned (OpenSpec.ofChange vadFadesWrong)

/-- 'madrigallaw13.VadLouder': WHATEVER THE INPUT: true; the input reads as it did. -/
def vadLouderSpec : ChangeSpec := { name := "vadLouder", fn := fun _ => fun
  | [d1, d2] => { results := [.lit (.bool true)], args := [d1, d2] }
  | _ => none }
def vadLouderRow : OpenClaim := { program := "ytklpicfeajmadaa", sum := "6f1fc4a214c663a7e96dd3a3185d09cc7bda7052a3ee5a224043b0cb02cf7177", func := "madrigal/madrigallaw13.VadLouder", spec := "vadLouder", unfollowed := true, recurses := true, apart := false }
def VadLouderSaid : Prop := vadLouderRow.holds Try.pinned (OpenSpec.ofChange vadLouderSpec)

/-- ITS FALSE NEIGHBOUR: 'it returns false'. Refute it at one input. -/
def vadLouderWrong : ChangeSpec := { name := "vadLouder", fn := fun _ => fun
  | [d1, d2] => { results := [.lit (.bool false)], args := [d1, d2] }
  | _ => none }
def VadLouderWrongFalsely : Prop := vadLouderRow.holds Try.pinned (OpenSpec.ofChange vadLouderWrong)

/- THE SECOND FORM. 'bulk': how many values and letters a reading holds, each counted each time it is reached (what is shared counts as often as it is met; a slice's spare places count too). A statement '..UptoSaid' is the law's where the arguments, and the package variables that the reading takes, are together of bulk at most 1048576: NARROWER than '..Said'. Prove '..Said' where nothing that the law and all that it calls make is longer than what came in: it says more and counts as full. Else prove '..UptoSaid'. A law counts once. -/
mutual
def uptoBulk {H : Type} : DataW H → Nat
  | .lit (.string bytes) => bytes.length + 1
  | .lit _ => 1
  | .nil => 1
  | .ptr d => uptoBulk d + 1
  | .slice elems spare => uptoBulkAll elems + uptoBulkAll spare + 1
  | .agg parts => uptoBulkAll parts + 1
  | .iface _ d => uptoBulk d + 1
  | .map entries => uptoBulkEntries entries + 1
  | .held _ => 1
def uptoBulkAll {H : Type} : List (DataW H) → Nat
  | [] => 0
  | d :: r => uptoBulk d + uptoBulkAll r
def uptoBulkEntries {H : Type} : List (Lit × DataW H) → Nat
  | [] => 0
  | x :: r => uptoBulkEntry x + uptoBulkEntries r
def uptoBulkEntry {H : Type} : Lit × DataW H → Nat
  | (.string bytes, d) => bytes.length + uptoBulk d + 1
  | (_, d) => uptoBulk d + 1
 end
def uptoSmall : (H : Type) → List (DataW H) → Bool := fun _ ds => decide (uptoBulkAll ds ≤ 1048576)
def OpenSpec.upto (s : _root_.Go.ChangeSpec) : _root_.Go.OpenSpec := { _root_.Go.OpenSpec.ofChange s with cond := some uptoSmall }

/-- 'madrigallaw13.VadKnown', WHERE WHAT IT READS IS OF BULK AT MOST 1048576: true; the input reads as it did. -/
def vadKnownUptoRow : OpenClaim := { program := "ytklpicfeajmadaa", sum := "6f1fc4a214c663a7e96dd3a3185d09cc7bda7052a3ee5a224043b0cb02cf7177", func := "madrigal/madrigallaw13.VadKnown", spec := "vadKnown", unfollowed := true, recurses := true, apart := false, narrowed := true }
def VadKnownUptoSaid : Prop := vadKnownUptoRow.holds Try.pinned (OpenSpec.upto vadKnownSpec)

/-- 'madrigallaw13.VadHears', WHERE WHAT IT READS IS OF BULK AT MOST 1048576: true; the input reads as it did. -/
def vadHearsUptoRow : OpenClaim := { program := "ytklpicfeajmadaa", sum := "6f1fc4a214c663a7e96dd3a3185d09cc7bda7052a3ee5a224043b0cb02cf7177", func := "madrigal/madrigallaw13.VadHears", spec := "vadHears", unfollowed := true, recurses := true, apart := false, narrowed := true }
def VadHearsUptoSaid : Prop := vadHearsUptoRow.holds Try.pinned (OpenSpec.upto vadHearsSpec)

/-- 'madrigallaw13.VadFades', WHERE WHAT IT READS IS OF BULK AT MOST 1048576: true; the input reads as it did. -/
def vadFadesUptoRow : OpenClaim := { program := "ytklpicfeajmadaa", sum := "6f1fc4a214c663a7e96dd3a3185d09cc7bda7052a3ee5a224043b0cb02cf7177", func := "madrigal/madrigallaw13.VadFades", spec := "vadFades", unfollowed := true, recurses := true, apart := false, narrowed := true }
def VadFadesUptoSaid : Prop := vadFadesUptoRow.holds Try.pinned (OpenSpec.upto vadFadesSpec)

/-- 'madrigallaw13.VadLouder', WHERE WHAT IT READS IS OF BULK AT MOST 1048576: true; the input reads as it did. -/
def vadLouderUptoRow : OpenClaim := { program := "ytklpicfeajmadaa", sum := "6f1fc4a214c663a7e96dd3a3185d09cc7bda7052a3ee5a224043b0cb02cf7177", func := "madrigal/madrigallaw13.VadLouder", spec := "vadLouder", unfollowed := true, recurses := true, apart := false, narrowed := true }
def VadLouderUptoSaid : Prop := vadLouderUptoRow.holds Try.pinned (OpenSpec.upto vadLouderSpec)

end Rows
end Go.Proofs.Ytklpicfeajmadaa
