/-
  DERIVED. GIVEN WITH THE SEED: THE CARDS: each row of YtjcbcmloenhohabDoorRows.lean that lists a variable, with what it lists TIED to the program's text (the seventh form; the later family's looks); each row that meets fmt, with fmt's text TOLD by the authors' own Lean function (tested against real Go, not proved from fmt's source: count such statements apart). THE CARD IS WHAT COUNTS. Prove the row's statement (the work); the ties are given (YtjcbcmloenhohabDoorTie.lean); close each card by the builder's one call (the guide's Derived/Test/ToyasCard.lean, 'card_holds'). Laid BY PROGRAM, IN A SANDBOX (cutbox-door.mjs). By AI agents, Wed Nov 11 2026. No macro, syntax, notation, axiom, sorry.
-/
import Derived.Test.YtjcbcmloenhohabDoorRows
import GoSem.ClaimSeven
namespace Go.Proofs.YtjcbcmloenhohabDoor
namespace Rows

/-- THE TIED CARD OF 'madrigallaw2.TabsNew'. -/
def tabsNewCard : Claim7 := { stood := { row := tabsNewRow, standIns := [], harness := (true, "0355fce339c2fbf6a7f842fc2f2b701e4aa4624951cb5120655912469bfe1ecb"), looks := false }, kinds := [], alts := [], laidByText := true, laidKinds := [.widerDeep, .data], laidTests := true, laidLooks := .later }
def TabsNewCardSaid : Prop := Claim7.holds Tryd.pinned (.plain (OpenSpec.ofChange tabsNewSpec)) tabsNewCard

/-- THE SECOND FORM's CARD OF 'madrigallaw2.TabsNew'. -/
def tabsNewUptoCard : Claim7 := { stood := { row := tabsNewUptoRow, standIns := [], harness := (true, "0355fce339c2fbf6a7f842fc2f2b701e4aa4624951cb5120655912469bfe1ecb"), looks := false }, kinds := [], alts := [], laidByText := true, laidKinds := [.widerDeep, .data], laidTests := true, laidLooks := .later }
def TabsNewUptoCardSaid : Prop := Claim7.holds Tryd.pinned (.plain (OpenSpec.upto tabsNewSpec)) tabsNewUptoCard
end Rows
end Go.Proofs.YtjcbcmloenhohabDoor
