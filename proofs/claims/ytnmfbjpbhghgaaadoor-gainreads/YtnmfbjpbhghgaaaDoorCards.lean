/-
  DERIVED. GIVEN WITH THE SEED: THE CARDS: each row of YtnmfbjpbhghgaaaDoorRows.lean that lists a variable, with what it lists TIED to the program's text (the seventh form; the later family's looks); each row that meets fmt, with fmt's text TOLD by the authors' own Lean function (tested against real Go, not proved from fmt's source: count such statements apart). THE CARD IS WHAT COUNTS. Prove the row's statement (the work); the ties are given (YtnmfbjpbhghgaaaDoorTie.lean); close each card by the builder's one call (the guide's Derived/Test/ToyasCard.lean, 'card_holds'). Laid BY PROGRAM, IN A SANDBOX (cutbox-door.mjs). By AI agents, Wed Nov 11 2026. No macro, syntax, notation, axiom, sorry.
-/
import Derived.Test.YtnmfbjpbhghgaaaDoorRows
import GoSem.ClaimSeven
namespace Go.Proofs.YtnmfbjpbhghgaaaDoor
namespace Rows

/-- THE TIED CARD OF 'madrigallaw8.GainKnown'. -/
def gainKnownCard : Claim7 := { stood := { row := gainKnownRow, standIns := [], harness := (true, "e65637207957cd92b0a903c746fca5d0e3828aa1382b8493e282d4c005e0d9da"), looks := false }, kinds := [], alts := [], laidByText := true, laidKinds := [.data], laidTests := true, laidLooks := .later }
def GainKnownCardSaid : Prop := Claim7.holds Tryd.pinned (.plain (OpenSpec.ofChange gainKnownSpec)) gainKnownCard

/-- THE TIED CARD OF 'madrigallaw8.GainReads'. -/
def gainReadsCard : Claim7 := { stood := { row := gainReadsRow, standIns := [], harness := (true, "e65637207957cd92b0a903c746fca5d0e3828aa1382b8493e282d4c005e0d9da"), looks := false }, kinds := [], alts := [], laidByText := true, laidKinds := [.data], laidTests := true, laidLooks := .later }
def GainReadsCardSaid : Prop := Claim7.holds Tryd.pinned (.plain (OpenSpec.ofChange gainReadsSpec)) gainReadsCard

/-- THE TIED CARD OF 'madrigallaw8.GainBack'. -/
def gainBackCard : Claim7 := { stood := { row := gainBackRow, standIns := [], harness := (true, "e65637207957cd92b0a903c746fca5d0e3828aa1382b8493e282d4c005e0d9da"), looks := false }, kinds := [], alts := [], laidByText := true, laidKinds := [.data], laidTests := true, laidLooks := .later }
def GainBackCardSaid : Prop := Claim7.holds Tryd.pinned (.plain (OpenSpec.ofChange gainBackSpec)) gainBackCard

/-- THE TIED CARD OF 'madrigallaw8.GainRises'. -/
def gainRisesCard : Claim7 := { stood := { row := gainRisesRow, standIns := [], harness := (true, "e65637207957cd92b0a903c746fca5d0e3828aa1382b8493e282d4c005e0d9da"), looks := false }, kinds := [], alts := [], laidByText := true, laidKinds := [.data], laidTests := true, laidLooks := .later }
def GainRisesCardSaid : Prop := Claim7.holds Tryd.pinned (.plain (OpenSpec.ofChange gainRisesSpec)) gainRisesCard

/-- THE TIED CARD OF 'madrigallaw8.GainNear'. -/
def gainNearCard : Claim7 := { stood := { row := gainNearRow, standIns := [], harness := (true, "e65637207957cd92b0a903c746fca5d0e3828aa1382b8493e282d4c005e0d9da"), looks := false }, kinds := [], alts := [], laidByText := true, laidKinds := [.data], laidTests := true, laidLooks := .later }
def GainNearCardSaid : Prop := Claim7.holds Tryd.pinned (.plain (OpenSpec.ofChange gainNearSpec)) gainNearCard

/-- THE SECOND FORM's CARD OF 'madrigallaw8.GainKnown'. -/
def gainKnownUptoCard : Claim7 := { stood := { row := gainKnownUptoRow, standIns := [], harness := (true, "e65637207957cd92b0a903c746fca5d0e3828aa1382b8493e282d4c005e0d9da"), looks := false }, kinds := [], alts := [], laidByText := true, laidKinds := [.data], laidTests := true, laidLooks := .later }
def GainKnownUptoCardSaid : Prop := Claim7.holds Tryd.pinned (.plain (OpenSpec.upto gainKnownSpec)) gainKnownUptoCard

/-- THE SECOND FORM's CARD OF 'madrigallaw8.GainReads'. -/
def gainReadsUptoCard : Claim7 := { stood := { row := gainReadsUptoRow, standIns := [], harness := (true, "e65637207957cd92b0a903c746fca5d0e3828aa1382b8493e282d4c005e0d9da"), looks := false }, kinds := [], alts := [], laidByText := true, laidKinds := [.data], laidTests := true, laidLooks := .later }
def GainReadsUptoCardSaid : Prop := Claim7.holds Tryd.pinned (.plain (OpenSpec.upto gainReadsSpec)) gainReadsUptoCard

/-- THE SECOND FORM's CARD OF 'madrigallaw8.GainBack'. -/
def gainBackUptoCard : Claim7 := { stood := { row := gainBackUptoRow, standIns := [], harness := (true, "e65637207957cd92b0a903c746fca5d0e3828aa1382b8493e282d4c005e0d9da"), looks := false }, kinds := [], alts := [], laidByText := true, laidKinds := [.data], laidTests := true, laidLooks := .later }
def GainBackUptoCardSaid : Prop := Claim7.holds Tryd.pinned (.plain (OpenSpec.upto gainBackSpec)) gainBackUptoCard

/-- THE SECOND FORM's CARD OF 'madrigallaw8.GainRises'. -/
def gainRisesUptoCard : Claim7 := { stood := { row := gainRisesUptoRow, standIns := [], harness := (true, "e65637207957cd92b0a903c746fca5d0e3828aa1382b8493e282d4c005e0d9da"), looks := false }, kinds := [], alts := [], laidByText := true, laidKinds := [.data], laidTests := true, laidLooks := .later }
def GainRisesUptoCardSaid : Prop := Claim7.holds Tryd.pinned (.plain (OpenSpec.upto gainRisesSpec)) gainRisesUptoCard

/-- THE SECOND FORM's CARD OF 'madrigallaw8.GainNear'. -/
def gainNearUptoCard : Claim7 := { stood := { row := gainNearUptoRow, standIns := [], harness := (true, "e65637207957cd92b0a903c746fca5d0e3828aa1382b8493e282d4c005e0d9da"), looks := false }, kinds := [], alts := [], laidByText := true, laidKinds := [.data], laidTests := true, laidLooks := .later }
def GainNearUptoCardSaid : Prop := Claim7.holds Tryd.pinned (.plain (OpenSpec.upto gainNearSpec)) gainNearUptoCard
end Rows
end Go.Proofs.YtnmfbjpbhghgaaaDoor
