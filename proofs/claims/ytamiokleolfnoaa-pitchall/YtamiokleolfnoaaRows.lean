/-
  No cell of these rows narrows 'for every input' (looked for: loops, veiled, ifaces, maps, wideKeys, modest, calm, conditions, laid).
  DERIVED. THE GIVEN ROWS OF THIS SEAT. 5 by the template 'for every input the law returns true; each argument reads behind the call as it read before'; 0 by the template 'total and deterministic' (their statements: YtamiokleolfnoaaTotals.lean).
  GIVEN WITH THE SEED: the statements are not yours to turn. If you find one false, say at which input.
  Laid BY PROGRAM, IN A SANDBOX (cutbox-rows.mjs): the forced cells as the released guide's own fill.sh prints them over the translation e8a8f558d0f76ada… (all of the seat's roots in one cut). By AI agents, Wed Nov 11 2026. No macro, syntax, notation, axiom, sorry.
-/
import Derived.Test.YtamiokleolfnoaaChecked
import GoSem.Claim
import GoSem.ClaimJoined
import GoSem.ClaimMapViews
import Derived.JoinedTies
import Derived.KernelRfl
namespace Go.Proofs.Ytamiokleolfnoaa
/- THE CELL 'sum', in the pinned program and in every row, IS THE sha256 OF THE DUMP (.gsa) THAT YtamiokleolfnoaaProg.lean LOADS. Nothing in Lean hashes anything: it is a label: what it is worth is what the hold of that sum in a sandbox is worth. -/
noncomputable def Try.pinned : Pinned := { name := "ytamiokleolfnoaa", sum := "e8a8f558d0f76ada4eb528cba885b9544f7fa4541b94f3370a203d146f2235f5", checked := Try.checked }
namespace Rows
def none {H : Type} : Left H := { results := [], args := [] }

/-- 'madrigallaw11.PitchKnown': WHATEVER THE INPUT: true; the input reads as it did. -/
def pitchKnownSpec : ChangeSpec := { name := "pitchKnown", fn := fun _ => fun
  | [] => { results := [.lit (.bool true)], args := [] }
  | _ => none }
def pitchKnownRow : OpenClaim := { program := "ytamiokleolfnoaa", sum := "e8a8f558d0f76ada4eb528cba885b9544f7fa4541b94f3370a203d146f2235f5", func := "madrigal/madrigallaw11.PitchKnown", spec := "pitchKnown", unfollowed := true, recurses := true, apart := false }
def PitchKnownSaid : Prop := pitchKnownRow.holds Try.pinned (OpenSpec.ofChange pitchKnownSpec)

/-- ITS FALSE NEIGHBOUR: 'it returns false'. Refute it at one input. -/
def pitchKnownWrong : ChangeSpec := { name := "pitchKnown", fn := fun _ => fun
  | [] => { results := [.lit (.bool false)], args := [] }
  | _ => none }
def PitchKnownWrongFalsely : Prop := pitchKnownRow.holds Try.pinned (OpenSpec.ofChange pitchKnownWrong)

/-- 'madrigallaw11.PitchSays': WHATEVER THE INPUT: true; the input reads as it did. -/
def pitchSaysSpec : ChangeSpec := { name := "pitchSays", fn := fun _ => fun
  | [d1, d2, d3, d4, d5] => { results := [.lit (.bool true)], args := [d1, d2, d3, d4, d5] }
  | _ => none }
def pitchSaysRow : OpenClaim := { program := "ytamiokleolfnoaa", sum := "e8a8f558d0f76ada4eb528cba885b9544f7fa4541b94f3370a203d146f2235f5", func := "madrigal/madrigallaw11.PitchSays", spec := "pitchSays", unfollowed := true, recurses := true, apart := false }
def PitchSaysSaid : Prop := pitchSaysRow.holds Try.pinned (OpenSpec.ofChange pitchSaysSpec)

/-- ITS FALSE NEIGHBOUR: 'it returns false'. Refute it at one input. -/
def pitchSaysWrong : ChangeSpec := { name := "pitchSays", fn := fun _ => fun
  | [d1, d2, d3, d4, d5] => { results := [.lit (.bool false)], args := [d1, d2, d3, d4, d5] }
  | _ => none }
def PitchSaysWrongFalsely : Prop := pitchSaysRow.holds Try.pinned (OpenSpec.ofChange pitchSaysWrong)

/-- 'madrigallaw11.PitchFinds': WHATEVER THE INPUT: true; the input reads as it did. -/
def pitchFindsSpec : ChangeSpec := { name := "pitchFinds", fn := fun _ => fun
  | [d1, d2, d3] => { results := [.lit (.bool true)], args := [d1, d2, d3] }
  | _ => none }
def pitchFindsRow : OpenClaim := { program := "ytamiokleolfnoaa", sum := "e8a8f558d0f76ada4eb528cba885b9544f7fa4541b94f3370a203d146f2235f5", func := "madrigal/madrigallaw11.PitchFinds", spec := "pitchFinds", unfollowed := true, recurses := true, apart := false }
def PitchFindsSaid : Prop := pitchFindsRow.holds Try.pinned (OpenSpec.ofChange pitchFindsSpec)

/-- ITS FALSE NEIGHBOUR: 'it returns false'. Refute it at one input. -/
def pitchFindsWrong : ChangeSpec := { name := "pitchFinds", fn := fun _ => fun
  | [d1, d2, d3] => { results := [.lit (.bool false)], args := [d1, d2, d3] }
  | _ => none }
def PitchFindsWrongFalsely : Prop := pitchFindsRow.holds Try.pinned (OpenSpec.ofChange pitchFindsWrong)

/-- 'madrigallaw11.PitchSigns': WHATEVER THE INPUT: true; the input reads as it did. -/
def pitchSignsSpec : ChangeSpec := { name := "pitchSigns", fn := fun _ => fun
  | [d1, d2] => { results := [.lit (.bool true)], args := [d1, d2] }
  | _ => none }
def pitchSignsRow : OpenClaim := { program := "ytamiokleolfnoaa", sum := "e8a8f558d0f76ada4eb528cba885b9544f7fa4541b94f3370a203d146f2235f5", func := "madrigal/madrigallaw11.PitchSigns", spec := "pitchSigns", unfollowed := true, recurses := true, apart := false }
def PitchSignsSaid : Prop := pitchSignsRow.holds Try.pinned (OpenSpec.ofChange pitchSignsSpec)

/-- ITS FALSE NEIGHBOUR: 'it returns false'. Refute it at one input. -/
def pitchSignsWrong : ChangeSpec := { name := "pitchSigns", fn := fun _ => fun
  | [d1, d2] => { results := [.lit (.bool false)], args := [d1, d2] }
  | _ => none }
def PitchSignsWrongFalsely : Prop := pitchSignsRow.holds Try.pinned (OpenSpec.ofChange pitchSignsWrong)

/-- 'madrigallaw11.PitchAll': WHATEVER THE INPUT: true; the input reads as it did. -/
def pitchAllSpec : ChangeSpec := { name := "pitchAll", fn := fun _ => fun
  | [d1, d2, d3] => { results := [.lit (.bool true)], args := [d1, d2, d3] }
  | _ => none }
def pitchAllRow : OpenClaim := { program := "ytamiokleolfnoaa", sum := "e8a8f558d0f76ada4eb528cba885b9544f7fa4541b94f3370a203d146f2235f5", func := "madrigal/madrigallaw11.PitchAll", spec := "pitchAll", unfollowed := true, recurses := true, apart := false }
def PitchAllSaid : Prop := pitchAllRow.holds Try.pinned (OpenSpec.ofChange pitchAllSpec)

/-- ITS FALSE NEIGHBOUR: 'it returns false'. Refute it at one input. -/
def pitchAllWrong : ChangeSpec := { name := "pitchAll", fn := fun _ => fun
  | [d1, d2, d3] => { results := [.lit (.bool false)], args := [d1, d2, d3] }
  | _ => none }
def PitchAllWrongFalsely : Prop := pitchAllRow.holds Try.pinned (OpenSpec.ofChange pitchAllWrong)

/- THE SECOND FORM. 'bulk': how many values and letters a reading holds, each counted each time it is reached (what is shared counts as often as it is met; a slice's spare places count too). A statement '..UptoSaid' is the law's where the arguments, and the package variables that the reading takes, are together of bulk at most 1048576: NARROWER than '..Said'. Prove '..Said' where nothing that the law and all that it calls make is longer than what came in: it says more and counts as full. Else prove '..UptoSaid'. A law counts once. -/
mutual
def uptoBulk {H : Type} : DataW H → Nat
  | .lit (.string bytes) => bytes.length + 1
  | .lit _ => 1
  | .nil => 1
  | .ptr d => uptoBulk d + 1
  | .slice elems spare => uptoBulkAll elems + uptoBulkAll spare + 1
  | .agg parts => uptoBulkAll parts + 1
  | .iface _ d => uptoBulk d + 1
  | .map entries => uptoBulkEntries entries + 1
  | .held _ => 1
def uptoBulkAll {H : Type} : List (DataW H) → Nat
  | [] => 0
  | d :: r => uptoBulk d + uptoBulkAll r
def uptoBulkEntries {H : Type} : List (Lit × DataW H) → Nat
  | [] => 0
  | x :: r => uptoBulkEntry x + uptoBulkEntries r
def uptoBulkEntry {H : Type} : Lit × DataW H → Nat
  | (.string bytes, d) => bytes.length + uptoBulk d + 1
  | (_, d) => uptoBulk d + 1
 end
def uptoSmall : (H : Type) → List (DataW H) → Bool := fun _ ds => decide (uptoBulkAll ds ≤ 1048576)
def OpenSpec.upto (s : _root_.Go.ChangeSpec) : _root_.Go.OpenSpec := { _root_.Go.OpenSpec.ofChange s with cond := some uptoSmall }

/-- 'madrigallaw11.PitchKnown', WHERE WHAT IT READS IS OF BULK AT MOST 1048576: true; the input reads as it did. -/
def pitchKnownUptoRow : OpenClaim := { program := "ytamiokleolfnoaa", sum := "e8a8f558d0f76ada4eb528cba885b9544f7fa4541b94f3370a203d146f2235f5", func := "madrigal/madrigallaw11.PitchKnown", spec := "pitchKnown", unfollowed := true, recurses := true, apart := false, narrowed := true }
def PitchKnownUptoSaid : Prop := pitchKnownUptoRow.holds Try.pinned (OpenSpec.upto pitchKnownSpec)

/-- 'madrigallaw11.PitchSays', WHERE WHAT IT READS IS OF BULK AT MOST 1048576: true; the input reads as it did. -/
def pitchSaysUptoRow : OpenClaim := { program := "ytamiokleolfnoaa", sum := "e8a8f558d0f76ada4eb528cba885b9544f7fa4541b94f3370a203d146f2235f5", func := "madrigal/madrigallaw11.PitchSays", spec := "pitchSays", unfollowed := true, recurses := true, apart := false, narrowed := true }
def PitchSaysUptoSaid : Prop := pitchSaysUptoRow.holds Try.pinned (OpenSpec.upto pitchSaysSpec)

/-- 'madrigallaw11.PitchFinds', WHERE WHAT IT READS IS OF BULK AT MOST 1048576: true; the input reads as it did. -/
def pitchFindsUptoRow : OpenClaim := { program := "ytamiokleolfnoaa", sum := "e8a8f558d0f76ada4eb528cba885b9544f7fa4541b94f3370a203d146f2235f5", func := "madrigal/madrigallaw11.PitchFinds", spec := "pitchFinds", unfollowed := true, recurses := true, apart := false, narrowed := true }
def PitchFindsUptoSaid : Prop := pitchFindsUptoRow.holds Try.pinned (OpenSpec.upto pitchFindsSpec)

/-- 'madrigallaw11.PitchSigns', WHERE WHAT IT READS IS OF BULK AT MOST 1048576: true; the input reads as it did. -/
def pitchSignsUptoRow : OpenClaim := { program := "ytamiokleolfnoaa", sum := "e8a8f558d0f76ada4eb528cba885b9544f7fa4541b94f3370a203d146f2235f5", func := "madrigal/madrigallaw11.PitchSigns", spec := "pitchSigns", unfollowed := true, recurses := true, apart := false, narrowed := true }
def PitchSignsUptoSaid : Prop := pitchSignsUptoRow.holds Try.pinned (OpenSpec.upto pitchSignsSpec)

/-- 'madrigallaw11.PitchAll', WHERE WHAT IT READS IS OF BULK AT MOST 1048576: true; the input reads as it did. -/
def pitchAllUptoRow : OpenClaim := { program := "ytamiokleolfnoaa", sum := "e8a8f558d0f76ada4eb528cba885b9544f7fa4541b94f3370a203d146f2235f5", func := "madrigal/madrigallaw11.PitchAll", spec := "pitchAll", unfollowed := true, recurses := true, apart := false, narrowed := true }
def PitchAllUptoSaid : Prop := pitchAllUptoRow.holds Try.pinned (OpenSpec.upto pitchAllSpec)

end Rows
end Go.Proofs.Ytamiokleolfnoaa
