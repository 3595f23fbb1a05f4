/- Rows of bytes as strings: what the laws compare. -/
import Derived.Test.YtgiellpepnbpcaaDoorPkts
import Derived.Laws.IdiomStrings
namespace Go.Proofs.YtgiellpepnbpcaaDoor
open Go.RowKit

/-- What bytes make a string of. -/
def strN (bs : List Nat) : ByteArray := ⟨(bs.map fun b => UInt8.ofNat b).toArray⟩

theorem str_of_row {B : Nat} {w : World} {a : Option Addr} {n cap : Nat} {bs : List Nat} (h : ByteRow w B a bs) (hl : bs.length = n) (hnil : a = none → cap = 0) :
    (convert 29 9 (.slice a n cap)).run Tryd.prog w = .ok (.string (strN bs)) w := by
  subst hl
  cases a with
  | none =>
    have h0 : bs = [] := by
      cases bs with
      | nil => rfl
      | cons x l =>
        obtain ⟨b, off, e, _⟩ := h.at_ (by simp)
        cases e
    subst h0
    obtain rfl := hnil rfl
    show (convert 29 9 (.slice none 0 0)).run Tryd.prog w = _
    rw [run_convert_bytes_string w _ _ 5 none 0 0 (by kernel_rfl) (by kernel_rfl) (by kernel_rfl)]
    rfl
  | some x =>
    have hlen : (bs.map fun b => UInt8.ofNat b).length = bs.length := List.length_map _
    have h2 := run_convert_bytes_back (P := Tryd.prog) w 29 9 5 x cap (bs.map fun b => UInt8.ofNat b) (by kernel_rfl) (by kernel_rfl) (by kernel_rfl) (fun j hj => by
      rw [hlen] at hj
      obtain ⟨b, off, e, _, _, hc⟩ := h.at_ (by omega)
      cases e
      rw [Addr.add_lit, hc j hj]
      have hb := h.small (bs[j]'hj) (List.getElem_mem _)
      have e2 : bs[j]?.getD 0 = bs[j]'hj := by rw [List.getElem?_eq_getElem hj]; rfl
      rw [List.getElem_map, e2]
      congr 2
      simp only [UInt8.toNat_ofNat']
      omega)
    rw [hlen] at h2
    exact h2

end Go.Proofs.YtgiellpepnbpcaaDoor
