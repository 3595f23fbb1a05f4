/-
  DERIVED. GIVEN WITH THE SEED: THE PROGRAM's TIES (one call each: nine closed facts by the kernel) AND EACH ROW's TIE, after the 31st guide's Derived/Test/Toyas{Tie, Card}.lean. No idea stands in it: it is a product of the set-up. Laid BY PROGRAM, IN A SANDBOX (cutbox-door.mjs). By AI agents, Wed Nov 11 2026. No macro, syntax, notation, axiom, sorry.
-/
import Derived.Test.YtjcbcmloenhohabDoorRows
import Derived.LaidByTextLater
import Derived.SevenTiedAt
import Derived.LaidSub
import Derived.LaidOnce
namespace Go.Proofs.YtjcbcmloenhohabDoor
open Go
set_option maxRecDepth 100000
theorem seatTie1 : Tryd.prog.laidByTextLater [("madrigal/tabs.edges", Rows.laid_madrigal_tabs_edges), ("madrigal/tabs.taps", Rows.laid_madrigal_tabs_taps)] [.widerDeep, .data] true :=
  Program.laidByTextLater_by_one 27 8 41 (by kernel_rfl) (by kernel_rfl) (by kernel_rfl) (by kernel_rfl) (by kernel_rfl) (by kernel_rfl) (fun _ _ => by kernel_rfl)
theorem noOwnUnsafe : Tryd.pinned.checked.prog.headLifts.contains "ownunsafe" = false := by kernel_rfl
theorem tie : Tryd.prog.laidByTextLater [("madrigal/tabs.edges", Rows.laid_madrigal_tabs_edges), ("madrigal/tabs.taps", Rows.laid_madrigal_tabs_taps)] [.widerDeep, .data] true :=
  Program.laidByTextLater.sub seatTie1 ["madrigal/tabs.edges", "madrigal/tabs.taps"] (by kernel_rfl) (by kernel_rfl)
theorem tabsNew_row_tie : Rows.tabsNewRow.laidByTextAt .later Tryd.pinned [.widerDeep, .data] true :=
  OpenClaim.laidByTextAt_later rfl rfl tie noOwnUnsafe
theorem tabsNewUpto_row_tie : Rows.tabsNewUptoRow.laidByTextAt .later Tryd.pinned [.widerDeep, .data] true :=
  OpenClaim.laidByTextAt_later rfl rfl tie noOwnUnsafe
end Go.Proofs.YtjcbcmloenhohabDoor
