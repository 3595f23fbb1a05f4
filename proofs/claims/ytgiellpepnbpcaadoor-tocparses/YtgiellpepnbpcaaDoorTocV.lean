/- Arguments of the laws of layer 5: bytes that came in; a packet's bytes are bytes, and few. -/
import Derived.Test.YtgiellpepnbpcaaDoorTocT
namespace Go.Proofs.YtgiellpepnbpcaaDoor
open Go.RowKit

theorem bs_of_row {w : World} {a : Option Addr} {len cap : Nat} {z : List Int} (h : IsRow .u8 w a len cap z) (hs : cap * 1 ≤ 140737488351232) : ∃ bs : List Nat, Bs w a len cap bs := by
  obtain ⟨h1, h2, h3, h4, _⟩ := byteRow_of h
  exact ⟨_, h1, h2, h3, h4, by omega⟩

theorem frames_small {w : World} {B : Nat} {a : Option Addr} {fs : List (List Nat)} (h : FramesAt w B a fs) : ∀ f ∈ fs, ∀ x ∈ f, x < 256 := fun f hf => by
  obtain ⟨i, hi, rfl⟩ := List.mem_iff_getElem.1 hf
  obtain ⟨b, off, _, _, _, h3⟩ := h.at_ (by omega)
  obtain ⟨fa, fcap, _, _, _, g4⟩ := h3 i hi
  rw [List.getElem?_eq_getElem hi] at g4
  exact g4.small

theorem packN_small {p : Pk} (h : GoodP p) (hb : ∀ f ∈ p.frames, ∀ x ∈ f, x < 256) : ∀ x ∈ packN p, x < 256 :=
  packT_bytes h hb fun x hx => by have := List.eq_of_mem_replicate hx; omega

theorem packN_few {p : Pk} (h : GoodP p) : (packN p).length ≤ 100000 := by
  have h1 := frontN_len h
  have h2 := flatN_le h.short p.frames.length
  rw [flatN_all] at h2
  have h3 := h.few
  have h4 := h.pad
  have h5 : (putsN (lensOf p.frames)).length ≤ 24 := by
    have h8 := putsN_le (lensOf p.frames)
    have h9 : (lensOf p.frames).length ≤ p.frames.length := by
      rw [lensOf_to]; unfold lensTo; rw [List.length_map]
      exact Nat.le_trans (List.length_take_le _ _) (Nat.sub_le _ _)
    omega
  have h6 : 1275 * p.frames.length ≤ 15300 := by omega
  rw [packN_pieces h]
  simp only [List.length_append, List.length_replicate]
  split
  · simp only [List.length_nil]; omega
  · omega

theorem owned_len {w : World} {B : Nat} {a : Option Addr} {m c : Nat} {bs : List Nat} (h : w.ownsRow B 5 1 (.slice a m c) m (bvals bs)) : m = bs.length := by
  have := h.1
  rw [bvals_len, Nat.mul_one] at this
  exact this.symm

end Go.Proofs.YtgiellpepnbpcaaDoor
