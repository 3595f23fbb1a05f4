/- What the laws of chapter 3 share: literals of bytes, the document's tables as rows, the examples that each law asks first. -/
import Derived.Test.YtfdfknfbnbeloabRsE
namespace Go.Proofs.Ytfdfknfbnbeloab
open Go.RowKit

theorem argIn_nil (w : World) : ArgIn w 0 none 0 0 [] :=
  ⟨⟨rfl, fun i => by show ([] : List Nat)[i]?.getD 0 < 256; simp, fun h => absurd h (by decide)⟩, fun _ => ⟨rfl, rfl⟩, by decide⟩

theorem bytes_one {x : Nat} (h : x < 256) : Bytes [x] := fun i => by
  unfold byteAt
  match i with
  | 0 => exact h
  | i + 1 => simp

theorem argIn_one (w : World) (x : Nat) (h : x < 256) : ArgIn (w.alloc (.cells #[.int .u8 x] 5)) w.heap.size (some ⟨w.heap.size, 0, none⟩) 1 1 [x] :=
  ⟨⟨rfl, bytes_one h, fun _ => ⟨0, rfl, fun i hi => by
      obtain rfl : i = 0 := by omega
      rw [World.cell?_alloc_new]; rfl⟩⟩, fun h => (by cases h), by decide⟩

theorem bytes_123 : Bytes [1, 2, 3] := fun i => by
  unfold byteAt
  match i with
  | 0 => decide
  | 1 => decide
  | 2 => decide
  | i + 3 => simp

theorem argIn_123 (w : World) : ArgIn (w.alloc (.cells #[.int .u8 1, .int .u8 2, .int .u8 3] 5)) w.heap.size (some ⟨w.heap.size, 0, none⟩) 3 3 [1, 2, 3] :=
  ⟨⟨rfl, bytes_123, fun _ => ⟨0, rfl, fun i hi => by
      match i, hi with
      | 0, _ => rw [World.cell?_alloc_new]; rfl
      | 1, _ => rw [World.cell?_alloc_new]; rfl
      | 2, _ => rw [World.cell?_alloc_new]; rfl⟩⟩, fun h => (by cases h), by decide⟩

/-- The document's table k, as a row that is new. -/
theorem ricdf_row (k : Int) (w : World) :
    Calls Try.prog 6 #[.int .i64 k] w fun e w' => ∃ a n cap, e = .returned (.slice a n cap) ∧ RowAt w' a n (icdfL k) ∧ (∀ b off, a = some ⟨b, off, none⟩ → 0 < n → w.heap.size ≤ b) ∧ n ≤ 17 ∧ Below w.heap.size w w' := by
  refine (ricdf_any k w).mono ?_
  rintro e w' ⟨a, cap, rfl, hn, hb⟩
  refine ⟨a, _, cap, rfl, .of_new hn, fun b off ha h0 => ?_, icdfL_len k, hb⟩
  obtain ⟨b', ha', hB, _⟩ := hn.cells h0
  rw [ha] at ha'
  cases ha'
  exact hB

theorem init_cnt (bs : List Nat) : (initS bs).cnt = 33 := (initS_is bs).2.2.1

theorem sym_ex0 : (symS [0] (icdfL 0) (initS [0])).1 = 0 := by decide +kernel
theorem sym_ex255 : (symS [255] (icdfL 0) (initS [255])).1 = 2 := by decide +kernel
theorem bits_ex255 : (bitsS [255] 3 (initS [255])).1 = 7 := by decide +kernel

set_option maxHeartbeats 1600000 in
theorem awake_any (w : World) :
    Calls Try.prog 4 #[] w fun e w' => e = .returned (.bool true) ∧ Below w.heap.size w w' := by
  have hb := Below.refl w.heap.size w
  have n1 : Hid True := trivial
  have n2 : Hid True := trivial
  have n3 : Hid True := trivial
  have n4 : Hid True := trivial
  have i1 : Hid True := trivial
  have i2 : Hid True := trivial
  have s1 : Hid True := trivial
  have s2 : Hid True := trivial
  have c0 : (initS ([] : List Nat)).cnt ≤ 2000000000000000 := by rw [init_cnt]; decide
  have I0 : Inv (initS []) := initS_inv (argIn_nil w).bytes.2.1
  have I1 : Inv (initS [0]) := initS_inv (bytes_one (by decide))
  have I2 : Inv (initS [255]) := initS_inv (bytes_one (by decide))
  have c1 : (initS [0]).cnt ≤ 1000000000000000 := by rw [init_cnt]; decide
  have c2 : (initS [255]).cnt ≤ 1000000000000000 := by rw [init_cnt]; decide
  go_enter Try.func4, Try.ntmps4
  go_wp2_with (first
    | (go_at_call 5; clear n1; refine (new_any 0 none 0 0 [] _ (argIn_nil _)).mono ?_; rintro e w1 ⟨p1, q1, rfl, hd1, hq1, hp1, hb1⟩; replace hb := hb.trans (hb1.mono hb.size); clear hb1)
    | (go_at_call 9; go_loud (refine (tell_any p1 q1 [] (initS []) _ hd1 I0 c0).mono ?_; rw [initS_tell]; rintro e w2 ⟨rfl, k, rfl⟩; replace hb := Below.drewN hb k; clear hd1))
    | (go_at_call 5; clear n2; refine (new_any _ _ 1 1 [0] _ (argIn_one _ 0 (by decide))).mono ?_; rintro e w1 ⟨p2, q2, rfl, hd2, hq2, hp2, hb1⟩; replace hq2 := Nat.le_trans hb.size (Nat.le_trans (Nat.le_of_lt (by simp)) hq2); replace hb := (hb.alloc hb.size _).trans (hb1.mono (Nat.le_trans hb.size (Nat.le_of_lt (by simp)))); clear hb1)
    | (go_at_call 6; clear i1; refine (ricdf_row 0 _).mono ?_; rintro e w1 ⟨a1, m1, cap1, rfl, ht1, _, hm1, hb1⟩; replace hd2 := hd2.keep hb1; replace hb := hb.trans (hb1.mono hb.size); clear hb1)
    | (go_at_call 7; clear s1; refine (symbol_any p2 q2 [0] _ a1 m1 cap1 (icdfL 0) _ hd2 I1 c1 ht1 (by omega)).mono ?_; rw [sym_ex0]; rintro e w1 ⟨rfl, _, hb1⟩; replace hb := hb.trans (hb1.below (Nat.le_trans hq2 hp2)); clear hb1 hd2 ht1)
    | (go_at_call 5; clear n3; refine (new_any _ _ 1 1 [255] _ (argIn_one _ 255 (by decide))).mono ?_; rintro e w1 ⟨p3, q3, rfl, hd3, hq3, hp3, hb1⟩; replace hq3 := Nat.le_trans hb.size (Nat.le_trans (Nat.le_of_lt (by simp)) hq3); replace hb := (hb.alloc hb.size _).trans (hb1.mono (Nat.le_trans hb.size (Nat.le_of_lt (by simp)))); clear hb1)
    | (go_at_call 6; clear i2; refine (ricdf_row 0 _).mono ?_; rintro e w1 ⟨a2, m2, cap2, rfl, ht2, _, hm2, hb1⟩; replace hd3 := hd3.keep hb1; replace hb := hb.trans (hb1.mono hb.size); clear hb1)
    | (go_at_call 7; clear s2; refine (symbol_any p3 q3 [255] _ a2 m2 cap2 (icdfL 0) _ hd3 I2 c2 ht2 (by omega)).mono ?_; rw [sym_ex255]; rintro e w1 ⟨rfl, _, hb1⟩; replace hb := hb.trans (hb1.below (Nat.le_trans hq3 hp3)); clear hb1 hd3 ht2)
    | (go_at_call 5; clear n4; refine (new_any _ _ 1 1 [255] _ (argIn_one _ 255 (by decide))).mono ?_; rintro e w1 ⟨p4, q4, rfl, hd4, hq4, hp4, hb1⟩; replace hq4 := Nat.le_trans hb.size (Nat.le_trans (Nat.le_of_lt (by simp)) hq4); replace hb := (hb.alloc hb.size _).trans (hb1.mono (Nat.le_trans hb.size (Nat.le_of_lt (by simp)))); clear hb1)
    | (go_at_call 10; refine (bits_any p4 q4 [255] _ 3 _ hd4 I2 c2).mono ?_; rw [bits_ex255]; rintro e w1 ⟨rfl, _, hb1⟩; replace hb := hb.trans (hb1.below (Nat.le_trans hq4 hp4)); clear hb1 hd4))
  go_ret
  exact ⟨rfl, hb⟩

end Go.Proofs.Ytfdfknfbnbeloab
