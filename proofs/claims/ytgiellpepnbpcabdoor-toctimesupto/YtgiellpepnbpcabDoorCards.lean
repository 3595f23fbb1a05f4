/-
  DERIVED. GIVEN WITH THE SEED: THE CARDS: each row of YtgiellpepnbpcabDoorRows.lean that lists a variable, with what it lists TIED to the program's text (the seventh form; the later family's looks); each row that meets fmt, with fmt's text TOLD by the authors' own Lean function (tested against real Go, not proved from fmt's source: count such statements apart). THE CARD IS WHAT COUNTS. Prove the row's statement (the work); the ties are given (YtgiellpepnbpcabDoorTie.lean); close each card by the builder's one call (the guide's Derived/Test/ToyasCard.lean, 'card_holds'). Laid BY PROGRAM, IN A SANDBOX (cutbox-door.mjs). By AI agents, Wed Nov 11 2026. No macro, syntax, notation, axiom, sorry.
-/
import Derived.Test.YtgiellpepnbpcabDoorRows
import GoSem.ClaimSeven
namespace Go.Proofs.YtgiellpepnbpcabDoor
namespace Rows

/-- THE TIED CARD OF 'madrigallaw5.TocTimes'. -/
def tocTimesCard : Claim7 := { stood := { row := tocTimesRow, standIns := [], harness := (true, "893d0ce8147aedb0a1e4b229dcd1874be544e7840c154575b1c6cb246b96a5b9"), looks := false }, kinds := [], alts := [], laidByText := true, laidKinds := [.data], laidTests := true, laidLooks := .later }
def TocTimesCardSaid : Prop := Claim7.holds Tryd.pinned (.plain (OpenSpec.ofChange tocTimesSpec)) tocTimesCard

/-- THE SECOND FORM's CARD OF 'madrigallaw5.TocTimes'. -/
def tocTimesUptoCard : Claim7 := { stood := { row := tocTimesUptoRow, standIns := [], harness := (true, "893d0ce8147aedb0a1e4b229dcd1874be544e7840c154575b1c6cb246b96a5b9"), looks := false }, kinds := [], alts := [], laidByText := true, laidKinds := [.data], laidTests := true, laidLooks := .later }
def TocTimesUptoCardSaid : Prop := Claim7.holds Tryd.pinned (.plain (OpenSpec.upto tocTimesSpec)) tocTimesUptoCard
end Rows
end Go.Proofs.YtgiellpepnbpcabDoor
