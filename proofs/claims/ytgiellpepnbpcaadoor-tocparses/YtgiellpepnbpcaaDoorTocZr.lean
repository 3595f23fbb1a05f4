/- What the document's own Parse comes to: some ways. (Laid by wip/mkrparse.py.) -/
import Derived.Test.YtgiellpepnbpcaaDoorTocZm
import Derived.Test.YtgiellpepnbpcaaDoorTocZn
import Derived.Test.YtgiellpepnbpcaaDoorTocZo
import Derived.Test.YtgiellpepnbpcaaDoorTocZp
import Derived.Test.YtgiellpepnbpcaaDoorTocZq
namespace Go.Proofs.YtgiellpepnbpcaaDoor
open Go.RowKit

theorem rparse_any (a : Option Addr) (n cap : Nat) (bs : List Nat) (w : World) (hb : Bs w a n cap bs) :
    Calls Tryd.prog 15 #[.slice a n cap] w fun e w' => RAns w.heap.size w' bs e ∧ Below w.heap.size w w' := by
  cases bs with
  | nil => exact rparse_nil a n cap w hb
  | cons h r =>
    by_cases hk : 11 < h / 8
    · exact rparse_config a n cap h r w hb _ _ rfl rfl hk
    by_cases h0 : h % 4 = 0
    · exact rparse_code0 a n cap h r w hb _ _ rfl rfl hk h0
    by_cases h1 : h % 4 = 1
    · by_cases ho : r.length % 2 = 1
      · exact rparse_code1_odd a n cap h r w hb _ _ rfl rfl hk h1 ho
      · exact rparse_code1_even a n cap h r w hb _ _ rfl rfl hk h1 ho
    by_cases h2 : h % 4 = 2
    · cases ht : takeLen r with
      | none => exact rparse_code2_no a n cap h r w hb _ _ rfl rfl hk h2 ht
      | some q =>
        obtain ⟨kn, r2⟩ := q
        exact rparse_code2 a n cap h r w hb _ _ rfl rfl hk h2 kn r2 ht
    have h3 : h % 4 = 3 := by omega
    cases ht : manyN (msN (h / 8)) r with
    | none => exact rparse_code3_no a n cap h r w hb _ _ rfl rfl hk h3 ht
    | some q =>
      obtain ⟨fs, pn⟩ := q
      exact rparse_code3 a n cap h r w hb _ _ rfl rfl hk h3 fs pn ht

end Go.Proofs.YtgiellpepnbpcaaDoor
