/-
  DERIVED. GIVEN WITH THE SEED: THE CARDS: each row of YtgiellpepnbpcaaDoorRows.lean that lists a variable, with what it lists TIED to the program's text (the seventh form; the later family's looks); each row that meets fmt, with fmt's text TOLD by the authors' own Lean function (tested against real Go, not proved from fmt's source: count such statements apart). THE CARD IS WHAT COUNTS. Prove the row's statement (the work); the ties are given (YtgiellpepnbpcaaDoorTie.lean); close each card by the builder's one call (the guide's Derived/Test/ToyasCard.lean, 'card_holds'). Laid BY PROGRAM, IN A SANDBOX (cutbox-door.mjs). By AI agents, Wed Nov 11 2026. No macro, syntax, notation, axiom, sorry.
-/
import Derived.Test.YtgiellpepnbpcaaDoorRows
import GoSem.ClaimSeven
namespace Go.Proofs.YtgiellpepnbpcaaDoor
namespace Rows

/-- THE TIED CARD OF 'madrigallaw5.TocKnown'. -/
def tocKnownCard : Claim7 := { stood := { row := tocKnownRow, standIns := [], harness := (true, "0f9859db3fe3c1d5ed8f1184e238695f89961075c68ee10399188e7c5702de4b"), looks := false }, kinds := [], alts := [], laidByText := true, laidKinds := [.data], laidTests := true, laidLooks := .later }
def TocKnownCardSaid : Prop := Claim7.holds Tryd.pinned (.plain (OpenSpec.ofChange tocKnownSpec)) tocKnownCard

/-- THE TIED CARD OF 'madrigallaw5.TocParses'. -/
def tocParsesCard : Claim7 := { stood := { row := tocParsesRow, standIns := [], harness := (true, "0f9859db3fe3c1d5ed8f1184e238695f89961075c68ee10399188e7c5702de4b"), looks := false }, kinds := [], alts := [], laidByText := true, laidKinds := [.data], laidTests := true, laidLooks := .later }
def TocParsesCardSaid : Prop := Claim7.holds Tryd.pinned (.plain (OpenSpec.ofChange tocParsesSpec)) tocParsesCard

/-- THE TIED CARD OF 'madrigallaw5.TocPacks'. -/
def tocPacksCard : Claim7 := { stood := { row := tocPacksRow, standIns := [], harness := (true, "0f9859db3fe3c1d5ed8f1184e238695f89961075c68ee10399188e7c5702de4b"), looks := false }, kinds := [], alts := [], laidByText := true, laidKinds := [.data], laidTests := true, laidLooks := .later }
def TocPacksCardSaid : Prop := Claim7.holds Tryd.pinned (.plain (OpenSpec.ofChange tocPacksSpec)) tocPacksCard

/-- THE TIED CARD OF 'madrigallaw5.TocConfigs'. -/
def tocConfigsCard : Claim7 := { stood := { row := tocConfigsRow, standIns := [], harness := (true, "0f9859db3fe3c1d5ed8f1184e238695f89961075c68ee10399188e7c5702de4b"), looks := false }, kinds := [], alts := [], laidByText := true, laidKinds := [.data], laidTests := true, laidLooks := .later }
def TocConfigsCardSaid : Prop := Claim7.holds Tryd.pinned (.plain (OpenSpec.ofChange tocConfigsSpec)) tocConfigsCard

/-- THE TIED CARD OF 'madrigallaw5.TocRepacks'. -/
def tocRepacksCard : Claim7 := { stood := { row := tocRepacksRow, standIns := [], harness := (true, "0f9859db3fe3c1d5ed8f1184e238695f89961075c68ee10399188e7c5702de4b"), looks := false }, kinds := [], alts := [], laidByText := true, laidKinds := [.data], laidTests := true, laidLooks := .later }
def TocRepacksCardSaid : Prop := Claim7.holds Tryd.pinned (.plain (OpenSpec.ofChange tocRepacksSpec)) tocRepacksCard

/-- THE TIED CARD OF 'madrigallaw5.TocPads'. -/
def tocPadsCard : Claim7 := { stood := { row := tocPadsRow, standIns := [], harness := (true, "0f9859db3fe3c1d5ed8f1184e238695f89961075c68ee10399188e7c5702de4b"), looks := false }, kinds := [], alts := [], laidByText := true, laidKinds := [.data], laidTests := true, laidLooks := .later }
def TocPadsCardSaid : Prop := Claim7.holds Tryd.pinned (.plain (OpenSpec.ofChange tocPadsSpec)) tocPadsCard

/-- THE SECOND FORM's CARD OF 'madrigallaw5.TocKnown'. -/
def tocKnownUptoCard : Claim7 := { stood := { row := tocKnownUptoRow, standIns := [], harness := (true, "0f9859db3fe3c1d5ed8f1184e238695f89961075c68ee10399188e7c5702de4b"), looks := false }, kinds := [], alts := [], laidByText := true, laidKinds := [.data], laidTests := true, laidLooks := .later }
def TocKnownUptoCardSaid : Prop := Claim7.holds Tryd.pinned (.plain (OpenSpec.upto tocKnownSpec)) tocKnownUptoCard

/-- THE SECOND FORM's CARD OF 'madrigallaw5.TocParses'. -/
def tocParsesUptoCard : Claim7 := { stood := { row := tocParsesUptoRow, standIns := [], harness := (true, "0f9859db3fe3c1d5ed8f1184e238695f89961075c68ee10399188e7c5702de4b"), looks := false }, kinds := [], alts := [], laidByText := true, laidKinds := [.data], laidTests := true, laidLooks := .later }
def TocParsesUptoCardSaid : Prop := Claim7.holds Tryd.pinned (.plain (OpenSpec.upto tocParsesSpec)) tocParsesUptoCard

/-- THE SECOND FORM's CARD OF 'madrigallaw5.TocPacks'. -/
def tocPacksUptoCard : Claim7 := { stood := { row := tocPacksUptoRow, standIns := [], harness := (true, "0f9859db3fe3c1d5ed8f1184e238695f89961075c68ee10399188e7c5702de4b"), looks := false }, kinds := [], alts := [], laidByText := true, laidKinds := [.data], laidTests := true, laidLooks := .later }
def TocPacksUptoCardSaid : Prop := Claim7.holds Tryd.pinned (.plain (OpenSpec.upto tocPacksSpec)) tocPacksUptoCard

/-- THE SECOND FORM's CARD OF 'madrigallaw5.TocConfigs'. -/
def tocConfigsUptoCard : Claim7 := { stood := { row := tocConfigsUptoRow, standIns := [], harness := (true, "0f9859db3fe3c1d5ed8f1184e238695f89961075c68ee10399188e7c5702de4b"), looks := false }, kinds := [], alts := [], laidByText := true, laidKinds := [.data], laidTests := true, laidLooks := .later }
def TocConfigsUptoCardSaid : Prop := Claim7.holds Tryd.pinned (.plain (OpenSpec.upto tocConfigsSpec)) tocConfigsUptoCard

/-- THE SECOND FORM's CARD OF 'madrigallaw5.TocRepacks'. -/
def tocRepacksUptoCard : Claim7 := { stood := { row := tocRepacksUptoRow, standIns := [], harness := (true, "0f9859db3fe3c1d5ed8f1184e238695f89961075c68ee10399188e7c5702de4b"), looks := false }, kinds := [], alts := [], laidByText := true, laidKinds := [.data], laidTests := true, laidLooks := .later }
def TocRepacksUptoCardSaid : Prop := Claim7.holds Tryd.pinned (.plain (OpenSpec.upto tocRepacksSpec)) tocRepacksUptoCard

/-- THE SECOND FORM's CARD OF 'madrigallaw5.TocPads'. -/
def tocPadsUptoCard : Claim7 := { stood := { row := tocPadsUptoRow, standIns := [], harness := (true, "0f9859db3fe3c1d5ed8f1184e238695f89961075c68ee10399188e7c5702de4b"), looks := false }, kinds := [], alts := [], laidByText := true, laidKinds := [.data], laidTests := true, laidLooks := .later }
def TocPadsUptoCardSaid : Prop := Claim7.holds Tryd.pinned (.plain (OpenSpec.upto tocPadsSpec)) tocPadsUptoCard
end Rows
end Go.Proofs.YtgiellpepnbpcaaDoor
