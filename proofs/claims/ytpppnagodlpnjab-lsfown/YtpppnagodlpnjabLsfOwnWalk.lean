/- The law of the first table's own frequencies answers true, of any order and place. -/
import Derived.Test.YtpppnagodlpnjabLsfU
namespace Go.Proofs.Ytpppnagodlpnjab
open Go.RowKit

theorem own_none (order i : Int) (w : World) (h : ¬ ((order = 10 ∨ order = 16) ∧ 0 ≤ i ∧ i ≤ 15)) :
    Calls Try.prog 3 #[.int .i64 order, .int .i64 i] w fun e w' => e = .returned (.bool true) ∧ Below w.heap.size w w' := by
  have h4 : (((order != 10) = true ∧ (order != 16) = true)) ∨ (order = 10 ∧ (i < 0 ∨ 15 < i)) ∨ (order = 16 ∧ (i < 0 ∨ 15 < i)) := by
    rw [bne_iff_ne, bne_iff_ne]
    omega
  clear h
  rcases h4 with ⟨q1, q2⟩ | ⟨rfl, h | h⟩ | ⟨rfl, h | h⟩
  all_goals
    go_enter Try.func3, Try.ntmps3
    go_wp2_with (go_at_call 4; refine (awake_any _).mono ?_; rintro e w1 ⟨rfl, hb1⟩)
    go_ret
    exact ⟨rfl, hb1⟩

set_option maxHeartbeats 1000000 in
theorem own_some (n i : Nat) (w : World) (h16 : n = 10 ∨ n = 16) (hi : i ≤ 15) :
    Calls Try.prog 3 #[.int .i64 (n : Int), .int .i64 (i : Int)] w fun e w' => e = .returned (.bool true) ∧ Below w.heap.size w w' := by
  have hI : (n : Int) = 10 ∨ (n : Int) = 16 := by omega
  have hn : 10 ≤ n ∧ n ≤ 16 := by omega
  have hg0 : GoodX n i (List.replicate n 0) := ⟨hI, by omega, by omega, by rw [List.length_replicate], fun x hx => by have := List.eq_of_mem_replicate hx; omega⟩
  have hd0 : decodeZ n i (List.replicate n 0) = lsfL n i := decodeZ_plain hg0 fun x hx => List.eq_of_mem_replicate hx
  have hl : (lsfL (n : Int) (i : Int)).length = n := lsfL_len' hI (by omega) (by omega) rfl
  have hg1 := found_good hI (lsfL n i)
  have hd1 : decodeZ n (oneZ n (lsfL n i) : Nat) (twosZ n (lsfL n i)) = lsfL n i := own_found hI (by omega)
  have hT : (twosZ n (lsfL n i)).length = n := twosZ_len _ _
  have HD0 : Hid (∀ W a, Zs W a n (List.replicate n 0) → Calls Try.prog 5 #[.int .i64 (n : Int), .agg #[.int .i64 (i : Int), .slice a n n]] W fun e w' => ∃ a', e = .returned (.tuple #[.slice a' n n, .int .i64 0]) ∧ Zs w' a' n (lsfL n i) ∧ Below W.heap.size W w') := fun W a hz => by
    refine (decode_good n i a n n _ W hz (by unfold maxLen; omega) hg0).mono ?_
    rw [hd0]
    rintro e w' ⟨a', rfl, hn, hb⟩
    exact ⟨a', rfl, Zs.of_new hn hl, hb⟩
  have HS : Hid (∀ W a, Zs W a n (lsfL n i) → Calls Try.prog 6 #[.int .i64 (n : Int), .slice a n n] W fun e w' => ∃ a', e = .returned (.tuple #[.agg #[.int .i64 (oneZ n (lsfL n i) : Nat), .slice a' n n], .int .i64 0]) ∧ Zs w' a' n (twosZ n (lsfL n i)) ∧ Below W.heap.size W w') := fun W a hz => by
    refine (search_good (lsfL n i) a n n W h16 hz).mono ?_
    rintro e w' ⟨a', rfl, hn, hb⟩
    exact ⟨a', rfl, Zs.of_new hn hT, hb⟩
  have HD1 : Hid (∀ W a, Zs W a n (twosZ n (lsfL n i)) → Calls Try.prog 5 #[.int .i64 (n : Int), .agg #[.int .i64 (oneZ n (lsfL n i) : Nat), .slice a n n]] W fun e w' => ∃ a', e = .returned (.tuple #[.slice a' n n, .int .i64 0]) ∧ Zs w' a' n (lsfL n i) ∧ Below W.heap.size W w') := fun W a hz => by
    refine (decode_good n _ a n n _ W hz (by unfold maxLen; omega) hg1).mono ?_
    rw [hd1]
    rintro e w' ⟨a', rfl, hn, hb⟩
    exact ⟨a', rfl, Zs.of_new hn hl, hb⟩
  have hmk := fun W : World => run_make_row' (P := Try.prog) 27 3 (.int .i64 0) 8 Try.underlying27 info_int rfl .i64 .i64 n (by omega) (by omega) W
  clear hg0 hd0 hl hg1 hd1 hT hI
  generalize lsfL (n : Int) (i : Int) = l at *
  generalize oneZ (n : Int) l = o at *
  generalize twosZ (n : Int) l = T at *
  have y1 : Hid True := trivial
  rcases h16 with h | h
  case' inl =>
    have q1 : ((n : Int) != 10) = false := by rw [h]; rfl
  case' inr =>
    have q1 : ((n : Int) != 10) = true := by rw [h]; rfl
    have q2 : ((n : Int) != 16) = false := by rw [h]; rfl
  all_goals
    clear h
    go_enter Try.func3, Try.ntmps3
    go_wp2_with (first
      | (go_at_call 4; refine (awake_any _).mono ?_; rintro e w1 ⟨rfl, hB⟩)
      | (go_at_call 5; clear y1; go_loud (refine (HD0.out _ _ (zs_made w1 n rfl)).mono ?_; rintro e w2 ⟨a2, rfl, hz2, hb2⟩; have hB2 := hB.alloc hB.size (.cells (madeCells #[.int .i64 0] n) 3); replace hB := hB2.trans (hb2.mono hB2.size); clear hb2 hB2))
      | (go_at_call 6; go_loud (refine (HS.out _ _ hz2).mono ?_; rintro e w3 ⟨a3, rfl, hz3, hb3⟩; have HZ2 := (hz2.keep hb3).alloc (.cells #[.int .i64 (o : Int), .slice a3 n n] 29); have HZ3 := hz3.alloc (.cells #[.int .i64 (o : Int), .slice a3 n n] 29); replace hB := hB.trans (hb3.mono hB.size); have hB4 := hB.alloc hB.size (.cells #[.int .i64 (o : Int), .slice a3 n n] 29); clear hb3 hz2 hz3 hB))
      | (go_at_call 5; go_loud (refine (HD1.out _ _ HZ3).mono ?_; rintro e w5 ⟨a5, rfl, hz5, hb5⟩; have HZ6 := HZ2.keep hb5; have hB6 := hB4.trans (hb5.mono hB4.size); clear hb5 hB4))
      | (go_at_call 7; go_loud (refine (zsame_any _ _ n _ _ l _ hz5 HZ6 (by omega)).mono ?_; rintro e w7 ⟨rfl, k7, rfl⟩; have hB7 := below_drewN hB6 k7; clear hB6)))
    go_ret
    exact ⟨rfl, hB7⟩

theorem lsfOwn.walk (order i : Int) (w : World) (_w0 : (Lit.int .i64 order).wf = true) (_w1 : (Lit.int .i64 i).wf = true) :
    Calls Try.prog 3 #[.int .i64 order, .int .i64 i] w fun e w' => e = .returned (.bool true) ∧ Below w.heap.size w w' := by
  by_cases h : (order = 10 ∨ order = 16) ∧ 0 ≤ i ∧ i ≤ 15
  · obtain ⟨h1, h2, h3⟩ := h
    obtain ⟨n, rfl⟩ := Int.eq_ofNat_of_zero_le (show 0 ≤ order by omega)
    obtain ⟨j, rfl⟩ := Int.eq_ofNat_of_zero_le h2
    exact own_some n j w (by omega) (by omega)
  · exact own_none order i w h

end Go.Proofs.Ytpppnagodlpnjab
