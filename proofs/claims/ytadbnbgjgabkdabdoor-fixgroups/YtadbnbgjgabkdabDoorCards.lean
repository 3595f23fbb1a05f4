/-
  DERIVED. GIVEN WITH THE SEED: THE CARDS: each row of YtadbnbgjgabkdabDoorRows.lean that lists a variable, with what it lists TIED to the program's text (the seventh form; the later family's looks); each row that meets fmt, with fmt's text TOLD by the authors' own Lean function (tested against real Go, not proved from fmt's source: count such statements apart). THE CARD IS WHAT COUNTS. Prove the row's statement (the work); the ties are given (YtadbnbgjgabkdabDoorTie.lean); close each card by the builder's one call (the guide's Derived/Test/ToyasCard.lean, 'card_holds'). Laid BY PROGRAM, IN A SANDBOX (cutbox-door.mjs). By AI agents, Wed Nov 11 2026. No macro, syntax, notation, axiom, sorry.
-/
import Derived.Test.YtadbnbgjgabkdabDoorRows
import GoSem.ClaimSeven
namespace Go.Proofs.YtadbnbgjgabkdabDoor
namespace Rows

/-- THE TIED CARD OF 'madrigallaw1.FixHalves'. -/
def fixHalvesCard : Claim7 := { stood := { row := fixHalvesRow, standIns := [], harness := (true, "d282ab9b2f1271268b97cf3e70971c6a659304ee5e1046a6270a44a08105289f"), looks := false }, kinds := [], alts := [], laidByText := true, laidKinds := [.data], laidTests := true, laidLooks := .later }
def FixHalvesCardSaid : Prop := Claim7.holds Tryd.pinned (.plain (OpenSpec.ofChange fixHalvesSpec)) fixHalvesCard

/-- THE TIED CARD OF 'madrigallaw1.FixGroups'. -/
def fixGroupsCard : Claim7 := { stood := { row := fixGroupsRow, standIns := [], harness := (true, "d282ab9b2f1271268b97cf3e70971c6a659304ee5e1046a6270a44a08105289f"), looks := false }, kinds := [], alts := [], laidByText := true, laidKinds := [.data], laidTests := true, laidLooks := .later }
def FixGroupsCardSaid : Prop := Claim7.holds Tryd.pinned (.plain (OpenSpec.ofChange fixGroupsSpec)) fixGroupsCard

/-- THE SECOND FORM's CARD OF 'madrigallaw1.FixHalves'. -/
def fixHalvesUptoCard : Claim7 := { stood := { row := fixHalvesUptoRow, standIns := [], harness := (true, "d282ab9b2f1271268b97cf3e70971c6a659304ee5e1046a6270a44a08105289f"), looks := false }, kinds := [], alts := [], laidByText := true, laidKinds := [.data], laidTests := true, laidLooks := .later }
def FixHalvesUptoCardSaid : Prop := Claim7.holds Tryd.pinned (.plain (OpenSpec.upto fixHalvesSpec)) fixHalvesUptoCard

/-- THE SECOND FORM's CARD OF 'madrigallaw1.FixGroups'. -/
def fixGroupsUptoCard : Claim7 := { stood := { row := fixGroupsUptoRow, standIns := [], harness := (true, "d282ab9b2f1271268b97cf3e70971c6a659304ee5e1046a6270a44a08105289f"), looks := false }, kinds := [], alts := [], laidByText := true, laidKinds := [.data], laidTests := true, laidLooks := .later }
def FixGroupsUptoCardSaid : Prop := Claim7.holds Tryd.pinned (.plain (OpenSpec.upto fixGroupsSpec)) fixGroupsUptoCard
end Rows
end Go.Proofs.YtadbnbgjgabkdabDoor
