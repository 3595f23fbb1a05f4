/- What the laws of chapter 3 share: literals of bytes, the document's tables as rows, the examples that each law asks first. -/
import Derived.Test.YtdbgcbbfnjoebaaRsE
namespace Go.Proofs.Ytdbgcbbfnjoebaa
open Go.RowKit

theorem argIn_nil (w : World) : ArgIn w 0 none 0 0 [] :=
  ⟨⟨rfl, fun i => by show ([] : List Nat)[i]?.getD 0 < 256; simp, fun h => absurd h (by decide)⟩, fun _ => ⟨rfl, rfl⟩, by decide⟩

theorem bytes_one {x : Nat} (h : x < 256) : Bytes [x] := fun i => by
  unfold byteAt
  match i with
  | 0 => exact h
  | i + 1 => simp

theorem argIn_one (w : World) (x : Nat) (h : x < 256) : ArgIn (w.alloc (.cells #[.int .u8 x] 5)) w.heap.size (some ⟨w.heap.size, 0, none⟩) 1 1 [x] :=
  ⟨⟨rfl, bytes_one h, fun _ => ⟨0, rfl, fun i hi => by
      obtain rfl : i = 0 := by omega
      rw [World.cell?_alloc_new]; rfl⟩⟩, fun h => (by cases h), by decide⟩

theorem bytes_123 : Bytes [1, 2, 3] := fun i => by
  unfold byteAt
  match i with
  | 0 => decide
  | 1 => decide
  | 2 => decide
  | i + 3 => simp

theorem argIn_123 (w : World) : ArgIn (w.alloc (.cells #[.int .u8 1, .int .u8 2, .int .u8 3] 5)) w.heap.size (some ⟨w.heap.size, 0, none⟩) 3 3 [1, 2, 3] :=
  ⟨⟨rfl, bytes_123, fun _ => ⟨0, rfl, fun i hi => by
      match i, hi with
      | 0, _ => rw [World.cell?_alloc_new]; rfl
      | 1, _ => rw [World.cell?_alloc_new]; rfl
      | 2, _ => rw [World.cell?_alloc_new]; rfl⟩⟩, fun h => (by cases h), by decide⟩

/-- The document's table k, as a row that is new. -/
theorem ricdf_row (k : Int) (w : World) :
    Calls Try.prog 40 #[.int .i64 k] w fun e w' => ∃ a n cap, e = .returned (.slice a n cap) ∧ RowAt w' a n (icdfL k) ∧ (∀ b off, a = some ⟨b, off, none⟩ → 0 < n → w.heap.size ≤ b) ∧ n ≤ 17 ∧ Below w.heap.size w w' := by
  refine (ricdf_any k w).mono ?_
  rintro e w' ⟨a, cap, rfl, hn, hb⟩
  refine ⟨a, _, cap, rfl, .of_new hn, fun b off ha h0 => ?_, icdfL_len k, hb⟩
  obtain ⟨b', ha', hB, _⟩ := hn.cells h0
  rw [ha] at ha'
  cases ha'
  exact hB

theorem init_cnt (bs : List Nat) : (initS bs).cnt = 33 := (initS_is bs).2.2.1

end Go.Proofs.Ytdbgcbbfnjoebaa
