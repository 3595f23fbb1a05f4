/- What the document's own Pack comes to: all ways. (Laid by wip/mkrpack.py.) -/
import Derived.Test.YtgiellpepnbpcaaDoorTocXb
import Derived.Test.YtgiellpepnbpcaaDoorTocXc
import Derived.Test.YtgiellpepnbpcaaDoorTocXd
import Derived.Test.YtgiellpepnbpcaaDoorTocXe
import Derived.Test.YtgiellpepnbpcaaDoorTocXf
namespace Go.Proofs.YtgiellpepnbpcaaDoor
open Go.RowKit

theorem rpack_good (k ch pad : Nat) (a : Option Addr) (n cap : Nat) (fs : List (List Nat)) (B : Nat) (w : World) (h : FramesAt w B a fs) (hn : fs.length = n) (hg : GoodP ⟨k, ch, fs, pad⟩) :
    Calls Tryd.prog 18 #[.agg #[.int .i64 (k : Nat), .int .i64 (ch : Nat), .slice a n cap, .int .i64 (pad : Nat)]] w fun e w' => (∃ a' m c', e = .returned (.slice a' m c') ∧ w'.ownsRow w.heap.size 5 1 (.slice a' m c') m (bvals (packN ⟨k, ch, fs, pad⟩))) ∧ Below w.heap.size w w' := by
  have h1 := hg.some_
  simp only at h1
  cases ha : alikeN fs
  · by_cases hp : 0 < pad
    · exact rpack_pu k ch pad a n cap fs B w h hn hg ha hp
    · by_cases h2 : 2 < n
      · exact rpack_mu k ch pad a n cap fs B w h hn hg ha (by omega) h2
      · have hne : n ≠ 1 := fun e => by
          obtain ⟨f, hf⟩ := List.length_eq_one_iff.1 (hn.trans e)
          rw [hf] at ha; cases ha
        exact rpack_f2u k ch pad a n cap fs B w h hn hg ha (by omega) (by omega)
  · by_cases hp : 0 < pad
    · exact rpack_pa k ch pad a n cap fs B w h hn hg ha hp
    · by_cases h2 : 2 < n
      · exact rpack_ma k ch pad a n cap fs B w h hn hg ha (by omega) h2
      · by_cases h3 : n = 1
        · exact rpack_f1 k ch pad a n cap fs B w h hn hg ha (by omega) h3
        · exact rpack_f2a k ch pad a n cap fs B w h hn hg ha (by omega) (by omega)

end Go.Proofs.YtgiellpepnbpcaaDoor
