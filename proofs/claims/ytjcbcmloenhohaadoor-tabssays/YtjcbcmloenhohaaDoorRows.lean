/-
  NARROWER THAN 'FOR EVERY INPUT', by the rows' own cells (each row's printed sentence says how): TabsKnown: laid · TabsSays: laid · TabsGood: laid · TabsWindows: laid · TabsBands: laid · TabsLsf: laid.
  DERIVED. THE GIVEN ROWS OF THIS SEAT. 6 by the template 'for every input the law returns true; each argument reads behind the call as it read before'; 0 by the template 'total and deterministic' (their statements: YtjcbcmloenhohaaDoorTotals.lean).
  GIVEN WITH THE SEED: the statements are not yours to turn. If you find one false, say at which input.
  Laid BY PROGRAM, IN A SANDBOX (cutbox-rows.mjs): the forced cells as the released guide's own fill.sh prints them over the translation 58e77d9a0eedcf12… (all of the seat's roots in one cut). By AI agents, Wed Nov 11 2026. No macro, syntax, notation, axiom, sorry.
-/
import Derived.Test.YtjcbcmloenhohaaDoorChecked
import GoSem.Claim
import GoSem.ClaimJoined
import GoSem.ClaimMapViews
import Derived.JoinedTies
import Derived.KernelRfl
namespace Go.Proofs.YtjcbcmloenhohaaDoor
/- THE CELL 'sum', in the pinned program and in every row, IS THE sha256 OF THE DUMP (.gsa) THAT YtjcbcmloenhohaaDoorProg.lean LOADS. Nothing in Lean hashes anything: it is a label: what it is worth is what the hold of that sum in a sandbox is worth. -/
noncomputable def Tryd.pinned : Pinned := { name := "ytjcbcmloenhohaadoor", sum := "58e77d9a0eedcf129c60411eb2e8953341f4bd61e6794baeb64692a5ec4eda40", checked := Tryd.checked }
namespace Rows
def none {H : Type} : Left H := { results := [], args := [] }

/- WHAT THE LISTED PACKAGE-LEVEL VARIABLES READ AS WHEN THE CALL BEGINS. Each datum BY PROGRAM (the guide's laid-datum.mjs) off the statement by which the dump's own 'gosem.cut.vars' lays the variable. In a bare row this is a premise. The card (YtjcbcmloenhohaaDoorCards.lean) ties it to the program's text. -/
def laid_madrigal_tabs_edges {H : Type} : DataW H := .slice [.lit (.int .i64 0), .lit (.int .i64 1), .lit (.int .i64 2), .lit (.int .i64 3), .lit (.int .i64 4), .lit (.int .i64 5), .lit (.int .i64 6), .lit (.int .i64 7), .lit (.int .i64 8), .lit (.int .i64 10), .lit (.int .i64 12), .lit (.int .i64 14), .lit (.int .i64 16), .lit (.int .i64 20), .lit (.int .i64 24), .lit (.int .i64 28), .lit (.int .i64 34), .lit (.int .i64 40), .lit (.int .i64 48), .lit (.int .i64 60)] []
def laid_madrigal_tabs_taps {H : Type} : DataW H := .agg [.agg [.lit (.int .i64 13), .lit (.int .i64 22), .lit (.int .i64 39), .lit (.int .i64 23), .lit (.int .i64 12)], .agg [.lit (.int .i64 (-1)), .lit (.int .i64 36), .lit (.int .i64 64), .lit (.int .i64 27), .lit (.int .i64 (-6))], .agg [.lit (.int .i64 4), .lit (.int .i64 6), .lit (.int .i64 24), .lit (.int .i64 7), .lit (.int .i64 5)], .agg [.lit (.int .i64 (-2)), .lit (.int .i64 6), .lit (.int .i64 118), .lit (.int .i64 7), .lit (.int .i64 (-3))], .agg [.lit (.int .i64 2), .lit (.int .i64 10), .lit (.int .i64 70), .lit (.int .i64 15), .lit (.int .i64 0)], .agg [.lit (.int .i64 (-9)), .lit (.int .i64 30), .lit (.int .i64 80), .lit (.int .i64 34), .lit (.int .i64 (-10))], .agg [.lit (.int .i64 0), .lit (.int .i64 0), .lit (.int .i64 96), .lit (.int .i64 0), .lit (.int .i64 0)], .agg [.lit (.int .i64 5), .lit (.int .i64 29), .lit (.int .i64 50), .lit (.int .i64 29), .lit (.int .i64 5)]]

/-- 'madrigallaw2.TabsKnown': WHATEVER THE INPUT: true; the input reads as it did. -/
def tabsKnownSpec : ChangeSpec := { name := "tabsKnown", fn := fun _ => fun
  | [] => { results := [.lit (.bool true)], args := [] }
  | _ => none }
def tabsKnownRow : OpenClaim := { program := "ytjcbcmloenhohaadoor", sum := "58e77d9a0eedcf129c60411eb2e8953341f4bd61e6794baeb64692a5ec4eda40", func := "madrigal/madrigallaw2.TabsKnown", spec := "tabsKnown", named := ["madrigal/tabs.edges", "madrigal/tabs.taps"], apart := false, laid := [("madrigal/tabs.edges", laid_madrigal_tabs_edges), ("madrigal/tabs.taps", laid_madrigal_tabs_taps)] }
def TabsKnownSaid : Prop := tabsKnownRow.holds Tryd.pinned (OpenSpec.ofChange tabsKnownSpec)

/-- ITS FALSE NEIGHBOUR: 'it returns false'. Refute it at one input. -/
def tabsKnownWrong : ChangeSpec := { name := "tabsKnown", fn := fun _ => fun
  | [] => { results := [.lit (.bool false)], args := [] }
  | _ => none }
def TabsKnownWrongFalsely : Prop := tabsKnownRow.holds Tryd.pinned (OpenSpec.ofChange tabsKnownWrong)

/-- 'madrigallaw2.TabsSays': WHATEVER THE INPUT: true; the input reads as it did. -/
def tabsSaysSpec : ChangeSpec := { name := "tabsSays", fn := fun _ => fun
  | [d1, d2, d3, d4] => { results := [.lit (.bool true)], args := [d1, d2, d3, d4] }
  | _ => none }
def tabsSaysRow : OpenClaim := { program := "ytjcbcmloenhohaadoor", sum := "58e77d9a0eedcf129c60411eb2e8953341f4bd61e6794baeb64692a5ec4eda40", func := "madrigal/madrigallaw2.TabsSays", spec := "tabsSays", named := ["madrigal/tabs.edges", "madrigal/tabs.taps"], apart := false, laid := [("madrigal/tabs.edges", laid_madrigal_tabs_edges), ("madrigal/tabs.taps", laid_madrigal_tabs_taps)] }
def TabsSaysSaid : Prop := tabsSaysRow.holds Tryd.pinned (OpenSpec.ofChange tabsSaysSpec)

/-- ITS FALSE NEIGHBOUR: 'it returns false'. Refute it at one input. -/
def tabsSaysWrong : ChangeSpec := { name := "tabsSays", fn := fun _ => fun
  | [d1, d2, d3, d4] => { results := [.lit (.bool false)], args := [d1, d2, d3, d4] }
  | _ => none }
def TabsSaysWrongFalsely : Prop := tabsSaysRow.holds Tryd.pinned (OpenSpec.ofChange tabsSaysWrong)

/-- 'madrigallaw2.TabsGood': WHATEVER THE INPUT: true; the input reads as it did. -/
def tabsGoodSpec : ChangeSpec := { name := "tabsGood", fn := fun _ => fun
  | [d] => { results := [.lit (.bool true)], args := [d] }
  | _ => none }
def tabsGoodRow : OpenClaim := { program := "ytjcbcmloenhohaadoor", sum := "58e77d9a0eedcf129c60411eb2e8953341f4bd61e6794baeb64692a5ec4eda40", func := "madrigal/madrigallaw2.TabsGood", spec := "tabsGood", named := ["madrigal/tabs.edges", "madrigal/tabs.taps"], apart := false, laid := [("madrigal/tabs.edges", laid_madrigal_tabs_edges), ("madrigal/tabs.taps", laid_madrigal_tabs_taps)] }
def TabsGoodSaid : Prop := tabsGoodRow.holds Tryd.pinned (OpenSpec.ofChange tabsGoodSpec)

/-- ITS FALSE NEIGHBOUR: 'it returns false'. Refute it at one input. -/
def tabsGoodWrong : ChangeSpec := { name := "tabsGood", fn := fun _ => fun
  | [d] => { results := [.lit (.bool false)], args := [d] }
  | _ => none }
def TabsGoodWrongFalsely : Prop := tabsGoodRow.holds Tryd.pinned (OpenSpec.ofChange tabsGoodWrong)

/-- 'madrigallaw2.TabsWindows': WHATEVER THE INPUT: true; the input reads as it did. -/
def tabsWindowsSpec : ChangeSpec := { name := "tabsWindows", fn := fun _ => fun
  | [d] => { results := [.lit (.bool true)], args := [d] }
  | _ => none }
def tabsWindowsRow : OpenClaim := { program := "ytjcbcmloenhohaadoor", sum := "58e77d9a0eedcf129c60411eb2e8953341f4bd61e6794baeb64692a5ec4eda40", func := "madrigal/madrigallaw2.TabsWindows", spec := "tabsWindows", named := ["madrigal/tabs.edges", "madrigal/tabs.taps"], apart := false, laid := [("madrigal/tabs.edges", laid_madrigal_tabs_edges), ("madrigal/tabs.taps", laid_madrigal_tabs_taps)] }
def TabsWindowsSaid : Prop := tabsWindowsRow.holds Tryd.pinned (OpenSpec.ofChange tabsWindowsSpec)

/-- ITS FALSE NEIGHBOUR: 'it returns false'. Refute it at one input. -/
def tabsWindowsWrong : ChangeSpec := { name := "tabsWindows", fn := fun _ => fun
  | [d] => { results := [.lit (.bool false)], args := [d] }
  | _ => none }
def TabsWindowsWrongFalsely : Prop := tabsWindowsRow.holds Tryd.pinned (OpenSpec.ofChange tabsWindowsWrong)

/-- 'madrigallaw2.TabsBands': WHATEVER THE INPUT: true; the input reads as it did. -/
def tabsBandsSpec : ChangeSpec := { name := "tabsBands", fn := fun _ => fun
  | [d1, d2] => { results := [.lit (.bool true)], args := [d1, d2] }
  | _ => none }
def tabsBandsRow : OpenClaim := { program := "ytjcbcmloenhohaadoor", sum := "58e77d9a0eedcf129c60411eb2e8953341f4bd61e6794baeb64692a5ec4eda40", func := "madrigal/madrigallaw2.TabsBands", spec := "tabsBands", named := ["madrigal/tabs.edges", "madrigal/tabs.taps"], apart := false, laid := [("madrigal/tabs.edges", laid_madrigal_tabs_edges), ("madrigal/tabs.taps", laid_madrigal_tabs_taps)] }
def TabsBandsSaid : Prop := tabsBandsRow.holds Tryd.pinned (OpenSpec.ofChange tabsBandsSpec)

/-- ITS FALSE NEIGHBOUR: 'it returns false'. Refute it at one input. -/
def tabsBandsWrong : ChangeSpec := { name := "tabsBands", fn := fun _ => fun
  | [d1, d2] => { results := [.lit (.bool false)], args := [d1, d2] }
  | _ => none }
def TabsBandsWrongFalsely : Prop := tabsBandsRow.holds Tryd.pinned (OpenSpec.ofChange tabsBandsWrong)

/-- 'madrigallaw2.TabsLsf': WHATEVER THE INPUT: true; the input reads as it did. -/
def tabsLsfSpec : ChangeSpec := { name := "tabsLsf", fn := fun _ => fun
  | [d1, d2] => { results := [.lit (.bool true)], args := [d1, d2] }
  | _ => none }
def tabsLsfRow : OpenClaim := { program := "ytjcbcmloenhohaadoor", sum := "58e77d9a0eedcf129c60411eb2e8953341f4bd61e6794baeb64692a5ec4eda40", func := "madrigal/madrigallaw2.TabsLsf", spec := "tabsLsf", named := ["madrigal/tabs.edges", "madrigal/tabs.taps"], apart := false, laid := [("madrigal/tabs.edges", laid_madrigal_tabs_edges), ("madrigal/tabs.taps", laid_madrigal_tabs_taps)] }
def TabsLsfSaid : Prop := tabsLsfRow.holds Tryd.pinned (OpenSpec.ofChange tabsLsfSpec)

/-- ITS FALSE NEIGHBOUR: 'it returns false'. Refute it at one input. -/
def tabsLsfWrong : ChangeSpec := { name := "tabsLsf", fn := fun _ => fun
  | [d1, d2] => { results := [.lit (.bool false)], args := [d1, d2] }
  | _ => none }
def TabsLsfWrongFalsely : Prop := tabsLsfRow.holds Tryd.pinned (OpenSpec.ofChange tabsLsfWrong)

/- THE SECOND FORM. 'bulk': how many values and letters a reading holds, each counted each time it is reached (what is shared counts as often as it is met; a slice's spare places count too). A statement '..UptoSaid' is the law's where the arguments, and the package variables that the reading takes, are together of bulk at most 1048576: NARROWER than '..Said'. Prove '..Said' where nothing that the law and all that it calls make is longer than what came in: it says more and counts as full. Else prove '..UptoSaid'. A law counts once. -/
mutual
def uptoBulk {H : Type} : DataW H → Nat
  | .lit (.string bytes) => bytes.length + 1
  | .lit _ => 1
  | .nil => 1
  | .ptr d => uptoBulk d + 1
  | .slice elems spare => uptoBulkAll elems + uptoBulkAll spare + 1
  | .agg parts => uptoBulkAll parts + 1
  | .iface _ d => uptoBulk d + 1
  | .map entries => uptoBulkEntries entries + 1
  | .held _ => 1
def uptoBulkAll {H : Type} : List (DataW H) → Nat
  | [] => 0
  | d :: r => uptoBulk d + uptoBulkAll r
def uptoBulkEntries {H : Type} : List (Lit × DataW H) → Nat
  | [] => 0
  | x :: r => uptoBulkEntry x + uptoBulkEntries r
def uptoBulkEntry {H : Type} : Lit × DataW H → Nat
  | (.string bytes, d) => bytes.length + uptoBulk d + 1
  | (_, d) => uptoBulk d + 1
 end
def uptoSmall : (H : Type) → List (DataW H) → Bool := fun _ ds => decide (uptoBulkAll ds ≤ 1048576)
def OpenSpec.upto (s : _root_.Go.ChangeSpec) : _root_.Go.OpenSpec := { _root_.Go.OpenSpec.ofChange s with cond := some uptoSmall }

/-- 'madrigallaw2.TabsKnown', WHERE WHAT IT READS IS OF BULK AT MOST 1048576: true; the input reads as it did. -/
def tabsKnownUptoRow : OpenClaim := { program := "ytjcbcmloenhohaadoor", sum := "58e77d9a0eedcf129c60411eb2e8953341f4bd61e6794baeb64692a5ec4eda40", func := "madrigal/madrigallaw2.TabsKnown", spec := "tabsKnown", named := ["madrigal/tabs.edges", "madrigal/tabs.taps"], apart := false, laid := [("madrigal/tabs.edges", laid_madrigal_tabs_edges), ("madrigal/tabs.taps", laid_madrigal_tabs_taps)], narrowed := true }
def TabsKnownUptoSaid : Prop := tabsKnownUptoRow.holds Tryd.pinned (OpenSpec.upto tabsKnownSpec)

/-- 'madrigallaw2.TabsSays', WHERE WHAT IT READS IS OF BULK AT MOST 1048576: true; the input reads as it did. -/
def tabsSaysUptoRow : OpenClaim := { program := "ytjcbcmloenhohaadoor", sum := "58e77d9a0eedcf129c60411eb2e8953341f4bd61e6794baeb64692a5ec4eda40", func := "madrigal/madrigallaw2.TabsSays", spec := "tabsSays", named := ["madrigal/tabs.edges", "madrigal/tabs.taps"], apart := false, laid := [("madrigal/tabs.edges", laid_madrigal_tabs_edges), ("madrigal/tabs.taps", laid_madrigal_tabs_taps)], narrowed := true }
def TabsSaysUptoSaid : Prop := tabsSaysUptoRow.holds Tryd.pinned (OpenSpec.upto tabsSaysSpec)

/-- 'madrigallaw2.TabsGood', WHERE WHAT IT READS IS OF BULK AT MOST 1048576: true; the input reads as it did. -/
def tabsGoodUptoRow : OpenClaim := { program := "ytjcbcmloenhohaadoor", sum := "58e77d9a0eedcf129c60411eb2e8953341f4bd61e6794baeb64692a5ec4eda40", func := "madrigal/madrigallaw2.TabsGood", spec := "tabsGood", named := ["madrigal/tabs.edges", "madrigal/tabs.taps"], apart := false, laid := [("madrigal/tabs.edges", laid_madrigal_tabs_edges), ("madrigal/tabs.taps", laid_madrigal_tabs_taps)], narrowed := true }
def TabsGoodUptoSaid : Prop := tabsGoodUptoRow.holds Tryd.pinned (OpenSpec.upto tabsGoodSpec)

/-- 'madrigallaw2.TabsWindows', WHERE WHAT IT READS IS OF BULK AT MOST 1048576: true; the input reads as it did. -/
def tabsWindowsUptoRow : OpenClaim := { program := "ytjcbcmloenhohaadoor", sum := "58e77d9a0eedcf129c60411eb2e8953341f4bd61e6794baeb64692a5ec4eda40", func := "madrigal/madrigallaw2.TabsWindows", spec := "tabsWindows", named := ["madrigal/tabs.edges", "madrigal/tabs.taps"], apart := false, laid := [("madrigal/tabs.edges", laid_madrigal_tabs_edges), ("madrigal/tabs.taps", laid_madrigal_tabs_taps)], narrowed := true }
def TabsWindowsUptoSaid : Prop := tabsWindowsUptoRow.holds Tryd.pinned (OpenSpec.upto tabsWindowsSpec)

/-- 'madrigallaw2.TabsBands', WHERE WHAT IT READS IS OF BULK AT MOST 1048576: true; the input reads as it did. -/
def tabsBandsUptoRow : OpenClaim := { program := "ytjcbcmloenhohaadoor", sum := "58e77d9a0eedcf129c60411eb2e8953341f4bd61e6794baeb64692a5ec4eda40", func := "madrigal/madrigallaw2.TabsBands", spec := "tabsBands", named := ["madrigal/tabs.edges", "madrigal/tabs.taps"], apart := false, laid := [("madrigal/tabs.edges", laid_madrigal_tabs_edges), ("madrigal/tabs.taps", laid_madrigal_tabs_taps)], narrowed := true }
def TabsBandsUptoSaid : Prop := tabsBandsUptoRow.holds Tryd.pinned (OpenSpec.upto tabsBandsSpec)

/-- 'madrigallaw2.TabsLsf', WHERE WHAT IT READS IS OF BULK AT MOST 1048576: true; the input reads as it did. -/
def tabsLsfUptoRow : OpenClaim := { program := "ytjcbcmloenhohaadoor", sum := "58e77d9a0eedcf129c60411eb2e8953341f4bd61e6794baeb64692a5ec4eda40", func := "madrigal/madrigallaw2.TabsLsf", spec := "tabsLsf", named := ["madrigal/tabs.edges", "madrigal/tabs.taps"], apart := false, laid := [("madrigal/tabs.edges", laid_madrigal_tabs_edges), ("madrigal/tabs.taps", laid_madrigal_tabs_taps)], narrowed := true }
def TabsLsfUptoSaid : Prop := tabsLsfUptoRow.holds Tryd.pinned (OpenSpec.upto tabsLsfSpec)

end Rows
end Go.Proofs.YtjcbcmloenhohaaDoor
