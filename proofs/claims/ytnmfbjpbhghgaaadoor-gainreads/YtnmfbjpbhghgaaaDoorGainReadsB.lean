/- Loudness, and what repeats, are read out of any bytes as the document says: whatever is handed in. -/
import Derived.Test.YtnmfbjpbhghgaaaDoorGainReadsWalk
namespace Go.Proofs.YtnmfbjpbhghgaaaDoor
open Go.RowKit

theorem gainReads.walk (a0 : Option Addr) (n0 cap0 : Nat) (z0 : List Int) (was rate g v : Int) (w : World) (h0 : IsRow .u8 w a0 n0 cap0 z0) (_w1 : (Lit.int .i64 was).wf = true) (_w2 : (Lit.int .i64 rate).wf = true) (_w3 : (Lit.int .i64 g).wf = true) (w4 : (Lit.int .i64 v).wf = true) (hr : RootsAt w) :
    Calls Tryd.prog 4 #[.slice a0 n0 cap0, .int .i64 was, .int .i64 rate, .int .i64 g, .int .i64 v] w fun e w' => e = .returned (.bool true) ∧ Below w.heap.size w w' := by
  have hv := bounds_i64 w4
  by_cases k0 : n0 ≤ 200
  · obtain ⟨g0, A0, hg0⟩ := arg_of_row h0 (by omega)
    by_cases hM : 0 < mostI rate
    · exact gainReads.withLag g0 a0 n0 cap0 _ was rate g v w A0 k0 hg0 hv hr hM
    · exact gainReads.noLag g0 a0 n0 cap0 _ was rate g v w A0 k0 hg0 hv hr hM
  · have hb := Below.refl w.heap.size w
    have hl := row_len h0
    have HR : Hid (∀ W, Below w.heap.size w W → RootsAt W) := fun W hW => hr.below hW hr.size
    clear hr h0
    go_enter Tryd.func4, Tryd.ntmps4
    go_wp2_with (go_at_call 8; refine (awake_any _ (HR.out _ hb)).mono ?_; rintro e w1 ⟨rfl, hb1⟩; replace hb := hb.trans (hb1.mono hb.size); clear hb1)
    go_ret
    exact ⟨rfl, hb⟩

end Go.Proofs.YtnmfbjpbhghgaaaDoor
