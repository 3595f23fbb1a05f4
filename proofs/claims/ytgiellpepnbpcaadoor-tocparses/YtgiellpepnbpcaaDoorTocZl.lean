/- What the document's own many comes to: some ways. (Laid by wip/mkmany.py.) -/
import Derived.Test.YtgiellpepnbpcaaDoorTocZg
import Derived.Test.YtgiellpepnbpcaaDoorTocZh
import Derived.Test.YtgiellpepnbpcaaDoorTocZi
import Derived.Test.YtgiellpepnbpcaaDoorTocZj
import Derived.Test.YtgiellpepnbpcaaDoorTocZk
namespace Go.Proofs.YtgiellpepnbpcaaDoor
open Go.RowKit

theorem many_any (g q : Nat) (a0 : Option Addr) (n0 c0 : Nat) (bs : List Nat) (cfg : Nat) (ch : Int) (r : List Nat) (w0 w : World) (h : Mpk w0 w g q a0 n0 c0 bs (cfg : Nat) ch w r (.slice none 0 0) 0 []) (hcfg : cfg ≤ 11) :
    Calls Tryd.prog 35 #[.pointer (some ⟨g, 0, none⟩), .pointer (some ⟨q, 0, none⟩)] w fun e w' => e = .returned (.tuple #[]) ∧ ManyR w0 w g q a0 n0 c0 bs (cfg : Nat) ch (msN cfg) r w' := by
  cases r with
  | nil => exact many_nil g q a0 n0 c0 bs cfg ch w0 w h
  | cons c r =>
    by_cases hm : c % 64 = 0
    · exact many_zero g q a0 n0 c0 bs cfg ch c r w0 w h hcfg _ _ rfl rfl hm
    by_cases hl : 120 < c % 64 * msN cfg
    · exact many_long g q a0 n0 c0 bs cfg ch c r w0 w h hcfg _ _ rfl rfl hm hl
    by_cases hpb : c / 64 % 2 = 1
    · by_cases hp : ∀ p r1, padN r 0 = some (p, r1) → ¬ p ≤ r1.length
      · exact many_pad_bad g q a0 n0 c0 bs cfg ch c r w0 w h hcfg _ _ rfl rfl hm hl hpb hp
      obtain ⟨p, r1, hp1, hle⟩ : ∃ p r1, padN r 0 = some (p, r1) ∧ p ≤ r1.length := Classical.byContradiction fun hn => hp fun p r1 h1 h2 => hn ⟨p, r1, h1, h2⟩
      by_cases htb : c / 128 % 2 = 1
      · exact many_pad_told g q a0 n0 c0 bs cfg ch c r w0 w h hcfg _ _ rfl rfl hm hl hpb htb p r1 _ hp1 hle rfl
      by_cases he : (r1.take (r1.length - p)).length % (c % 64) = 0
      · exact many_pad_even_ok g q a0 n0 c0 bs cfg ch c r w0 w h hcfg _ _ rfl rfl hm hl hpb htb p r1 _ hp1 hle rfl he
      · exact many_pad_even_bad g q a0 n0 c0 bs cfg ch c r w0 w h hcfg _ _ rfl rfl hm hl hpb htb p r1 _ hp1 hle rfl he
    by_cases htb : c / 128 % 2 = 1
    · exact many_told g q a0 n0 c0 bs cfg ch c r w0 w h hcfg _ _ rfl rfl hm hl hpb htb
    by_cases he : r.length % (c % 64) = 0
    · exact many_even_ok g q a0 n0 c0 bs cfg ch c r w0 w h hcfg _ _ rfl rfl hm hl hpb htb he
    · exact many_even_bad g q a0 n0 c0 bs cfg ch c r w0 w h hcfg _ _ rfl rfl hm hl hpb htb he

end Go.Proofs.YtgiellpepnbpcaaDoor
