/- What package toc's Parse comes to: some ways. (Laid by wip/mkparse.py.) -/
import Derived.Test.YtgiellpepnbpcaaDoorTocI0
import Derived.Test.YtgiellpepnbpcaaDoorTocI1
import Derived.Test.YtgiellpepnbpcaaDoorTocI2
namespace Go.Proofs.YtgiellpepnbpcaaDoor
open Go.RowKit

theorem parse_any (a : Option Addr) (n cap : Nat) (bs : List Nat) (w : World) (hb : Bs w a n cap bs) (hc : CfgAt w) :
    Calls Tryd.prog 10 #[.slice a n cap] w fun e w' => ParseAns w.heap.size w' bs e ∧ Below w.heap.size w w' := by
  cases bs with
  | nil =>
    obtain rfl : n = 0 := by have := hb.len; simp at this; omega
    exact parse_nil a cap w
  | cons h r =>
    by_cases hk : 11 < h / 8
    · exact parse_config a n cap h r w hb hk
    have hk' : h / 8 ≤ 11 := by omega
    cases hh : headP (h % 4) r with
    | none => exact parse_head a n cap h r w hb hc hk' hh
    | some q =>
      obtain ⟨m, t, pd, r1⟩ := q
      by_cases hm : m = 0
      · exact parse_none a n cap h r w hb hc hk' m t pd r1 hh hm
      have hm' : 1 ≤ m := by omega
      by_cases hl : 120 < m * msN (h / 8)
      · exact parse_long a n cap h r w hb hc hk' m t pd r1 hh hm' hl
      cases pd with
      | true =>
        cases hp : padP r1 with
        | none => exact parse_pad a n cap h r w hb hc hk' m t r1 hh hm' hl hp
        | some q2 =>
          obtain ⟨p, r2⟩ := q2
          cases hz : sizes2 m t r2 with
          | none => exact parse_size_p a n cap h r w hb hc hk' m t r1 hh hm' hl p r2 hp hz
          | some q3 =>
            obtain ⟨l, r3⟩ := q3
            cases hs : shortS l with
            | false => exact parse_short_p a n cap h r w hb hc hk' m t r1 hh hm' hl p r2 hp l r3 hz hs
            | true => exact parse_yes_p a n cap h r w hb hc hk' m t r1 hh hm' hl p r2 hp l r3 hz hs
      | false =>
        cases hz : sizes2 m t r1 with
        | none => exact parse_size a n cap h r w hb hc hk' m t r1 hh hm' hl hz
        | some q3 =>
          obtain ⟨l, r3⟩ := q3
          cases hs : shortS l with
          | false => exact parse_short a n cap h r w hb hc hk' m t r1 hh hm' hl l r3 hz hs
          | true => exact parse_yes a n cap h r w hb hc hk' m t r1 hh hm' hl l r3 hz hs

end Go.Proofs.YtgiellpepnbpcaaDoor
