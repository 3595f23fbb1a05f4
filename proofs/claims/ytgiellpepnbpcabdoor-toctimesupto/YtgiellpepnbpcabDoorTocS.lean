/- The law's own 'is': two packets of the same numbers and the same frames are the same. -/
import Derived.Test.YtgiellpepnbpcabDoorTocR4
namespace Go.Proofs.YtgiellpepnbpcabDoor
open Go.RowKit

theorem str_frame {w : World} {B : Nat} {fa : Option Addr} {fcap : Nat} {f : List Nat} (h : ByteRow w B fa f) (hnil : fa = none → fcap = 0) (k : Nat) :
    (convert 22 9 (.slice fa f.length fcap)).run Tryd.prog (w.drewN k) = .ok (.string (strN f)) (w.drewN k) :=
  str_of_row (h.drewN k) rfl hnil

end Go.Proofs.YtgiellpepnbpcabDoor
