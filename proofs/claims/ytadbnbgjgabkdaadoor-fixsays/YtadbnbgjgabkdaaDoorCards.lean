/-
  DERIVED. GIVEN WITH THE SEED: THE CARDS: each row of YtadbnbgjgabkdaaDoorRows.lean that lists a variable, with what it lists TIED to the program's text (the seventh form; the later family's looks); each row that meets fmt, with fmt's text TOLD by the authors' own Lean function (tested against real Go, not proved from fmt's source: count such statements apart). THE CARD IS WHAT COUNTS. Prove the row's statement (the work); the ties are given (YtadbnbgjgabkdaaDoorTie.lean); close each card by the builder's one call (the guide's Derived/Test/ToyasCard.lean, 'card_holds'). Laid BY PROGRAM, IN A SANDBOX (cutbox-door.mjs). By AI agents, Wed Nov 11 2026. No macro, syntax, notation, axiom, sorry.
-/
import Derived.Test.YtadbnbgjgabkdaaDoorRows
import GoSem.ClaimSeven
namespace Go.Proofs.YtadbnbgjgabkdaaDoor
namespace Rows

/-- THE TIED CARD OF 'madrigallaw1.FixKnown'. -/
def fixKnownCard : Claim7 := { stood := { row := fixKnownRow, standIns := [], harness := (true, "e3a155b3a8a24f876694658596aa3a84df36a4f15e5e98f16dcec6bddf1e98f7"), looks := false }, kinds := [], alts := [], laidByText := true, laidKinds := [.data], laidTests := true, laidLooks := .later }
def FixKnownCardSaid : Prop := Claim7.holds Tryd.pinned (.plain (OpenSpec.ofChange fixKnownSpec)) fixKnownCard

/-- THE TIED CARD OF 'madrigallaw1.FixSays'. -/
def fixSaysCard : Claim7 := { stood := { row := fixSaysRow, standIns := [], harness := (true, "e3a155b3a8a24f876694658596aa3a84df36a4f15e5e98f16dcec6bddf1e98f7"), looks := false }, kinds := [], alts := [], laidByText := true, laidKinds := [.data], laidTests := true, laidLooks := .later }
def FixSaysCardSaid : Prop := Claim7.holds Tryd.pinned (.plain (OpenSpec.ofChange fixSaysSpec)) fixSaysCard

/-- THE TIED CARD OF 'madrigallaw1.FixHolds'. -/
def fixHoldsCard : Claim7 := { stood := { row := fixHoldsRow, standIns := [], harness := (true, "e3a155b3a8a24f876694658596aa3a84df36a4f15e5e98f16dcec6bddf1e98f7"), looks := false }, kinds := [], alts := [], laidByText := true, laidKinds := [.data], laidTests := true, laidLooks := .later }
def FixHoldsCardSaid : Prop := Claim7.holds Tryd.pinned (.plain (OpenSpec.ofChange fixHoldsSpec)) fixHoldsCard

/-- THE TIED CARD OF 'madrigallaw1.FixCircle'. -/
def fixCircleCard : Claim7 := { stood := { row := fixCircleRow, standIns := [], harness := (true, "e3a155b3a8a24f876694658596aa3a84df36a4f15e5e98f16dcec6bddf1e98f7"), looks := false }, kinds := [], alts := [], laidByText := true, laidKinds := [.data], laidTests := true, laidLooks := .later }
def FixCircleCardSaid : Prop := Claim7.holds Tryd.pinned (.plain (OpenSpec.ofChange fixCircleSpec)) fixCircleCard

/-- THE TIED CARD OF 'madrigallaw1.FixRises'. -/
def fixRisesCard : Claim7 := { stood := { row := fixRisesRow, standIns := [], harness := (true, "e3a155b3a8a24f876694658596aa3a84df36a4f15e5e98f16dcec6bddf1e98f7"), looks := false }, kinds := [], alts := [], laidByText := true, laidKinds := [.data], laidTests := true, laidLooks := .later }
def FixRisesCardSaid : Prop := Claim7.holds Tryd.pinned (.plain (OpenSpec.ofChange fixRisesSpec)) fixRisesCard

/-- THE TIED CARD OF 'madrigallaw1.FixQuotients'. -/
def fixQuotientsCard : Claim7 := { stood := { row := fixQuotientsRow, standIns := [], harness := (true, "e3a155b3a8a24f876694658596aa3a84df36a4f15e5e98f16dcec6bddf1e98f7"), looks := false }, kinds := [], alts := [], laidByText := true, laidKinds := [.data], laidTests := true, laidLooks := .later }
def FixQuotientsCardSaid : Prop := Claim7.holds Tryd.pinned (.plain (OpenSpec.ofChange fixQuotientsSpec)) fixQuotientsCard

/-- THE SECOND FORM's CARD OF 'madrigallaw1.FixKnown'. -/
def fixKnownUptoCard : Claim7 := { stood := { row := fixKnownUptoRow, standIns := [], harness := (true, "e3a155b3a8a24f876694658596aa3a84df36a4f15e5e98f16dcec6bddf1e98f7"), looks := false }, kinds := [], alts := [], laidByText := true, laidKinds := [.data], laidTests := true, laidLooks := .later }
def FixKnownUptoCardSaid : Prop := Claim7.holds Tryd.pinned (.plain (OpenSpec.upto fixKnownSpec)) fixKnownUptoCard

/-- THE SECOND FORM's CARD OF 'madrigallaw1.FixSays'. -/
def fixSaysUptoCard : Claim7 := { stood := { row := fixSaysUptoRow, standIns := [], harness := (true, "e3a155b3a8a24f876694658596aa3a84df36a4f15e5e98f16dcec6bddf1e98f7"), looks := false }, kinds := [], alts := [], laidByText := true, laidKinds := [.data], laidTests := true, laidLooks := .later }
def FixSaysUptoCardSaid : Prop := Claim7.holds Tryd.pinned (.plain (OpenSpec.upto fixSaysSpec)) fixSaysUptoCard

/-- THE SECOND FORM's CARD OF 'madrigallaw1.FixHolds'. -/
def fixHoldsUptoCard : Claim7 := { stood := { row := fixHoldsUptoRow, standIns := [], harness := (true, "e3a155b3a8a24f876694658596aa3a84df36a4f15e5e98f16dcec6bddf1e98f7"), looks := false }, kinds := [], alts := [], laidByText := true, laidKinds := [.data], laidTests := true, laidLooks := .later }
def FixHoldsUptoCardSaid : Prop := Claim7.holds Tryd.pinned (.plain (OpenSpec.upto fixHoldsSpec)) fixHoldsUptoCard

/-- THE SECOND FORM's CARD OF 'madrigallaw1.FixCircle'. -/
def fixCircleUptoCard : Claim7 := { stood := { row := fixCircleUptoRow, standIns := [], harness := (true, "e3a155b3a8a24f876694658596aa3a84df36a4f15e5e98f16dcec6bddf1e98f7"), looks := false }, kinds := [], alts := [], laidByText := true, laidKinds := [.data], laidTests := true, laidLooks := .later }
def FixCircleUptoCardSaid : Prop := Claim7.holds Tryd.pinned (.plain (OpenSpec.upto fixCircleSpec)) fixCircleUptoCard

/-- THE SECOND FORM's CARD OF 'madrigallaw1.FixRises'. -/
def fixRisesUptoCard : Claim7 := { stood := { row := fixRisesUptoRow, standIns := [], harness := (true, "e3a155b3a8a24f876694658596aa3a84df36a4f15e5e98f16dcec6bddf1e98f7"), looks := false }, kinds := [], alts := [], laidByText := true, laidKinds := [.data], laidTests := true, laidLooks := .later }
def FixRisesUptoCardSaid : Prop := Claim7.holds Tryd.pinned (.plain (OpenSpec.upto fixRisesSpec)) fixRisesUptoCard

/-- THE SECOND FORM's CARD OF 'madrigallaw1.FixQuotients'. -/
def fixQuotientsUptoCard : Claim7 := { stood := { row := fixQuotientsUptoRow, standIns := [], harness := (true, "e3a155b3a8a24f876694658596aa3a84df36a4f15e5e98f16dcec6bddf1e98f7"), looks := false }, kinds := [], alts := [], laidByText := true, laidKinds := [.data], laidTests := true, laidLooks := .later }
def FixQuotientsUptoCardSaid : Prop := Claim7.holds Tryd.pinned (.plain (OpenSpec.upto fixQuotientsSpec)) fixQuotientsUptoCard
end Rows
end Go.Proofs.YtadbnbgjgabkdaaDoor
