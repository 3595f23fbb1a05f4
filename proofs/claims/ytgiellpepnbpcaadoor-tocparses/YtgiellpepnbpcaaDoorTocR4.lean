/- What package toc's Pack comes to: all ways. (Laid by wip/mkpack.py.) -/
import Derived.Test.YtgiellpepnbpcaaDoorTocR1
import Derived.Test.YtgiellpepnbpcaaDoorTocR2
import Derived.Test.YtgiellpepnbpcaaDoorTocR3
namespace Go.Proofs.YtgiellpepnbpcaaDoor
open Go.RowKit

theorem pack_good (k ch pad : Nat) (a : Option Addr) (n cap : Nat) (fs : List (List Nat)) (B : Nat) (w : World) (hC : CfgAt w) (h : FramesAt w B a fs) (hn : fs.length = n) (hcap : n ≤ cap) (hg : GoodP ⟨k, ch, fs, pad⟩) :
    Calls Tryd.prog 13 #[.agg #[.int .i64 (k : Nat), .int .i64 (ch : Nat), .slice a n cap, .int .i64 (pad : Nat)]] w fun e w' => (∃ a' m c', e = .returned (.tuple #[.slice a' m c', .int .i64 0]) ∧ w'.ownsRow w.heap.size 5 1 (.slice a' m c') m (bvals (packN ⟨k, ch, fs, pad⟩))) ∧ Below w.heap.size w w' := by
  cases ha : alikeN fs
  · by_cases hp : 0 < pad
    · exact pack_up k ch pad a n cap fs B w hC h hn hcap hg ha hp
    · by_cases h2 : 2 < n
      · exact pack_um k ch pad a n cap fs B w hC h hn hcap hg ha (by omega) h2
      · exact pack_uf k ch pad a n cap fs B w hC h hn hcap hg ha (by omega) (by omega)
  · by_cases hp : 0 < pad
    · exact pack_ap k ch pad a n cap fs B w hC h hn hcap hg ha hp
    · by_cases h2 : 2 < n
      · exact pack_am k ch pad a n cap fs B w hC h hn hcap hg ha (by omega) h2
      · exact pack_af k ch pad a n cap fs B w hC h hn hcap hg ha (by omega) (by omega)

end Go.Proofs.YtgiellpepnbpcaaDoor
