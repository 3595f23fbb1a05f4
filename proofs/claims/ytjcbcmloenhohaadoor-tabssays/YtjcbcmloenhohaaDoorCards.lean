/-
  DERIVED. GIVEN WITH THE SEED: THE CARDS: each row of YtjcbcmloenhohaaDoorRows.lean that lists a variable, with what it lists TIED to the program's text (the seventh form; the later family's looks); each row that meets fmt, with fmt's text TOLD by the authors' own Lean function (tested against real Go, not proved from fmt's source: count such statements apart). THE CARD IS WHAT COUNTS. Prove the row's statement (the work); the ties are given (YtjcbcmloenhohaaDoorTie.lean); close each card by the builder's one call (the guide's Derived/Test/ToyasCard.lean, 'card_holds'). Laid BY PROGRAM, IN A SANDBOX (cutbox-door.mjs). By AI agents, Wed Nov 11 2026. No macro, syntax, notation, axiom, sorry.
-/
import Derived.Test.YtjcbcmloenhohaaDoorRows
import GoSem.ClaimSeven
namespace Go.Proofs.YtjcbcmloenhohaaDoor
namespace Rows

/-- THE TIED CARD OF 'madrigallaw2.TabsKnown'. -/
def tabsKnownCard : Claim7 := { stood := { row := tabsKnownRow, standIns := [], harness := (true, "03d7507a434dec61bb82caf1002ac33a615921ce81d665becdfbe1c22649e383"), looks := false }, kinds := [], alts := [], laidByText := true, laidKinds := [.widerDeep, .data], laidTests := true, laidLooks := .later }
def TabsKnownCardSaid : Prop := Claim7.holds Tryd.pinned (.plain (OpenSpec.ofChange tabsKnownSpec)) tabsKnownCard

/-- THE TIED CARD OF 'madrigallaw2.TabsSays'. -/
def tabsSaysCard : Claim7 := { stood := { row := tabsSaysRow, standIns := [], harness := (true, "03d7507a434dec61bb82caf1002ac33a615921ce81d665becdfbe1c22649e383"), looks := false }, kinds := [], alts := [], laidByText := true, laidKinds := [.widerDeep, .data], laidTests := true, laidLooks := .later }
def TabsSaysCardSaid : Prop := Claim7.holds Tryd.pinned (.plain (OpenSpec.ofChange tabsSaysSpec)) tabsSaysCard

/-- THE TIED CARD OF 'madrigallaw2.TabsGood'. -/
def tabsGoodCard : Claim7 := { stood := { row := tabsGoodRow, standIns := [], harness := (true, "03d7507a434dec61bb82caf1002ac33a615921ce81d665becdfbe1c22649e383"), looks := false }, kinds := [], alts := [], laidByText := true, laidKinds := [.widerDeep, .data], laidTests := true, laidLooks := .later }
def TabsGoodCardSaid : Prop := Claim7.holds Tryd.pinned (.plain (OpenSpec.ofChange tabsGoodSpec)) tabsGoodCard

/-- THE TIED CARD OF 'madrigallaw2.TabsWindows'. -/
def tabsWindowsCard : Claim7 := { stood := { row := tabsWindowsRow, standIns := [], harness := (true, "03d7507a434dec61bb82caf1002ac33a615921ce81d665becdfbe1c22649e383"), looks := false }, kinds := [], alts := [], laidByText := true, laidKinds := [.widerDeep, .data], laidTests := true, laidLooks := .later }
def TabsWindowsCardSaid : Prop := Claim7.holds Tryd.pinned (.plain (OpenSpec.ofChange tabsWindowsSpec)) tabsWindowsCard

/-- THE TIED CARD OF 'madrigallaw2.TabsBands'. -/
def tabsBandsCard : Claim7 := { stood := { row := tabsBandsRow, standIns := [], harness := (true, "03d7507a434dec61bb82caf1002ac33a615921ce81d665becdfbe1c22649e383"), looks := false }, kinds := [], alts := [], laidByText := true, laidKinds := [.widerDeep, .data], laidTests := true, laidLooks := .later }
def TabsBandsCardSaid : Prop := Claim7.holds Tryd.pinned (.plain (OpenSpec.ofChange tabsBandsSpec)) tabsBandsCard

/-- THE TIED CARD OF 'madrigallaw2.TabsLsf'. -/
def tabsLsfCard : Claim7 := { stood := { row := tabsLsfRow, standIns := [], harness := (true, "03d7507a434dec61bb82caf1002ac33a615921ce81d665becdfbe1c22649e383"), looks := false }, kinds := [], alts := [], laidByText := true, laidKinds := [.widerDeep, .data], laidTests := true, laidLooks := .later }
def TabsLsfCardSaid : Prop := Claim7.holds Tryd.pinned (.plain (OpenSpec.ofChange tabsLsfSpec)) tabsLsfCard

/-- THE SECOND FORM's CARD OF 'madrigallaw2.TabsKnown'. -/
def tabsKnownUptoCard : Claim7 := { stood := { row := tabsKnownUptoRow, standIns := [], harness := (true, "03d7507a434dec61bb82caf1002ac33a615921ce81d665becdfbe1c22649e383"), looks := false }, kinds := [], alts := [], laidByText := true, laidKinds := [.widerDeep, .data], laidTests := true, laidLooks := .later }
def TabsKnownUptoCardSaid : Prop := Claim7.holds Tryd.pinned (.plain (OpenSpec.upto tabsKnownSpec)) tabsKnownUptoCard

/-- THE SECOND FORM's CARD OF 'madrigallaw2.TabsSays'. -/
def tabsSaysUptoCard : Claim7 := { stood := { row := tabsSaysUptoRow, standIns := [], harness := (true, "03d7507a434dec61bb82caf1002ac33a615921ce81d665becdfbe1c22649e383"), looks := false }, kinds := [], alts := [], laidByText := true, laidKinds := [.widerDeep, .data], laidTests := true, laidLooks := .later }
def TabsSaysUptoCardSaid : Prop := Claim7.holds Tryd.pinned (.plain (OpenSpec.upto tabsSaysSpec)) tabsSaysUptoCard

/-- THE SECOND FORM's CARD OF 'madrigallaw2.TabsGood'. -/
def tabsGoodUptoCard : Claim7 := { stood := { row := tabsGoodUptoRow, standIns := [], harness := (true, "03d7507a434dec61bb82caf1002ac33a615921ce81d665becdfbe1c22649e383"), looks := false }, kinds := [], alts := [], laidByText := true, laidKinds := [.widerDeep, .data], laidTests := true, laidLooks := .later }
def TabsGoodUptoCardSaid : Prop := Claim7.holds Tryd.pinned (.plain (OpenSpec.upto tabsGoodSpec)) tabsGoodUptoCard

/-- THE SECOND FORM's CARD OF 'madrigallaw2.TabsWindows'. -/
def tabsWindowsUptoCard : Claim7 := { stood := { row := tabsWindowsUptoRow, standIns := [], harness := (true, "03d7507a434dec61bb82caf1002ac33a615921ce81d665becdfbe1c22649e383"), looks := false }, kinds := [], alts := [], laidByText := true, laidKinds := [.widerDeep, .data], laidTests := true, laidLooks := .later }
def TabsWindowsUptoCardSaid : Prop := Claim7.holds Tryd.pinned (.plain (OpenSpec.upto tabsWindowsSpec)) tabsWindowsUptoCard

/-- THE SECOND FORM's CARD OF 'madrigallaw2.TabsBands'. -/
def tabsBandsUptoCard : Claim7 := { stood := { row := tabsBandsUptoRow, standIns := [], harness := (true, "03d7507a434dec61bb82caf1002ac33a615921ce81d665becdfbe1c22649e383"), looks := false }, kinds := [], alts := [], laidByText := true, laidKinds := [.widerDeep, .data], laidTests := true, laidLooks := .later }
def TabsBandsUptoCardSaid : Prop := Claim7.holds Tryd.pinned (.plain (OpenSpec.upto tabsBandsSpec)) tabsBandsUptoCard

/-- THE SECOND FORM's CARD OF 'madrigallaw2.TabsLsf'. -/
def tabsLsfUptoCard : Claim7 := { stood := { row := tabsLsfUptoRow, standIns := [], harness := (true, "03d7507a434dec61bb82caf1002ac33a615921ce81d665becdfbe1c22649e383"), looks := false }, kinds := [], alts := [], laidByText := true, laidKinds := [.widerDeep, .data], laidTests := true, laidLooks := .later }
def TabsLsfUptoCardSaid : Prop := Claim7.holds Tryd.pinned (.plain (OpenSpec.upto tabsLsfSpec)) tabsLsfUptoCard
end Rows
end Go.Proofs.YtjcbcmloenhohaaDoor
