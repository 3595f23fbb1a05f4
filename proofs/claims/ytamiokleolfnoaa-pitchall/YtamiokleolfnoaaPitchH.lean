/- Package pitch: the best lags out of the heap, into a list. -/
import Derived.Test.YtamiokleolfnoaaPitchD
import Derived.Test.YtamiokleolfnoaaPitchG
namespace Go.Proofs.Ytamiokleolfnoaa
namespace Pit
open Go.RowKit

/-! ### A list of lags that a call has made -/
theorem hvals_zero (n : Nat) : (madeCells #[.int .i64 0, .int .i64 0] (n * 2)).toList = hvals (fun _ => (0, 0)) n := by
  apply List.ext_getElem?
  intro j
  by_cases hj : j < n * 2
  · rw [hvals_at _ hj]
    unfold madeCells
    rw [Array.getElem?_toList, Array.getElem?_map, Array.getElem?_range, if_pos hj]
    unfold hcell
    rcases Nat.mod_two_eq_zero_or_one j with h | h
    · simp [h, lagCell]
    · simp [h, lagCell]
  · rw [List.getElem?_eq_none (by rw [Array.length_toList, size_madeCells]; omega), List.getElem?_eq_none (by rw [hvals_len]; omega)]

theorem run_make_lags (n : Nat) (hn : n ≤ 100000) (W : World) :
    (Instr.makeSlice 23 (.int .i64 (n : Int)) (.int .i64 (n : Int))).run Try.prog W = .ok (.slice (some ⟨W.heap.size, 0, none⟩) n n) (W.alloc (.cells (madeCells #[.int .i64 0, .int .i64 0] (n * 2)) 33)) := by
  obtain ⟨i, hi, h1, h2, h3⟩ := info_lag
  have hr := run_make (P := Try.prog) W 23 33 i _ Try.underlying23 hi h1 .i64 .i64 n n (by omega) (Int.le_refl _) (by rw [h3]; omega) (by omega)
  simp only [Int.toNat_natCast, h2] at hr
  exact hr

theorem SRow.made (W : World) (n : Nat) (hn : n ≤ 100000) : SRow W.heap.size (W.alloc (.cells (madeCells #[.int .i64 0, .int .i64 0] (n * 2)) 33)) W.heap.size n n (fun _ => (0, 0)) := by
  refine SRow.of_block (cur := madeCells #[.int .i64 0, .int .i64 0] (n * 2)) (Nat.le_refl _) (heap_alloc_new W _) (Nat.le_refl _) (by unfold maxLen; omega) (size_madeCells _ _) ?_
  rw [hvals_zero, List.take_of_length_le (by rw [hvals_len]; exact Nat.le_refl _)]

theorem SRow.congr {B g n cap : Nat} {w : World} {e f : Nat → LagS} (h : SRow B w g n cap e) (hef : ∀ i, i < n → e i = f i) : SRow B w g n cap f := by
  unfold SRow at h ⊢
  rw [← hvals_congr hef]
  exact h

theorem SRow.below {B g n cap : Nat} {w w' : World} {e : Nat → LagS} (h : SRow B w g n cap e) (hb : Below w.heap.size w w') : SRow B w' g n cap e := h.keep (hb.block g h.lt)

theorem HpV.apart {B p n g : Nat} {v : Value} {e : Nat → LagS} {w w' : World} (h : HpV B p n v e w) (hp : g ≠ p) (hv : v.ownBlock ≠ some g) (hc : ∀ k, k ≠ g → w'.heap[k]? = w.heap[k]?) : HpV B p n v e w' :=
  ⟨(hc p (fun e => hp e.symm)).trans h.cell, h.low, row_of_block h.row fun k hk => hc k (fun e => hv (by rw [← e]; exact hk)), h.far⟩

/-- What is on top of the heap is the last of the list; what is left holds the others. -/
theorem Hold.pl {e : Nat → LagS} {l : List LagS} (h : Hold keyL e l) (hl : ∀ x ∈ l, 0 ≤ x.1 ∧ x.1 < 1000) : Pl l.length e := fun k hk => hl _ ((h.mem _).2 ⟨k, hk, rfl⟩)

/-- The rest of the list is laid, from m on. -/
def restF (l : List LagS) (m : Nat) : Nat → LagS := fun j => if m ≤ j then l[j]?.getD (0, 0) else (0, 0)

end Pit
end Go.Proofs.Ytamiokleolfnoaa
