/- What every law of layer 6 begins with: the document's few frequencies answer as told. -/
import Derived.Test.YtpppnagodlpnjaaLsfL
namespace Go.Proofs.Ytpppnagodlpnjaa
open Go.RowKit

theorem zs_lit {e : TypeId} (w : World) (zs : List Int) {vs : Array Value} (hv : vs = (zs.map (Value.int .i64)).toArray) {n g : Nat} (hn : zs.length = n) (hg : g = w.heap.size) : Zs (w.alloc (.cells vs e)) (some ⟨g, 0, none⟩) n zs := by
  subst hv
  subst hg
  exact Zs.of_new (newRow_alloc w zs e) hn
theorem zs_made {e : TypeId} (w : World) (n : Nat) {g : Nat} (hg : g = w.heap.size) : Zs (w.alloc (.cells (madeCells #[.int .i64 0] n) e)) (some ⟨g, 0, none⟩) n (List.replicate n 0) := by
  subst hg
  exact Zs.of_new (NewRow.made w n) (by simp)
/-- Two numbers at a, as cells. -/
theorem two_cells {e : TypeId} {B : Nat} {w : World} {a : Option Addr} {x y : Int} (h : NewRow e B w a [x, y]) : ∃ b, a = some ⟨b, 0, none⟩ ∧ b < w.heap.size ∧ w.cell? ⟨b, 0, none⟩ = some (.int .i64 x) ∧ w.cell? ⟨b, 1, none⟩ = some (.int .i64 y) := by
  obtain ⟨b, h1, _, h3, hc⟩ := h.cells (by simp)
  exact ⟨b, h1, h3, hc 0 (by simp), hc 1 (by simp)⟩

theorem good_zero : GoodX 10 0 (List.replicate 10 0) := ⟨.inl rfl, by decide, by decide, by decide, by decide⟩
theorem steady_56 : steadyZ [5, 6] = [250, 500] := by decide
theorem between_04 : betweenL [0, 8] [4, 0] 1 2 = [1, 6] := by decide
theorem one_three : oneZ 10 (lsfL 10 3) = 3 := by decide +kernel

theorem lsf_ten (w : World) : Calls Try.prog 21 #[.int .i64 10, .int .i64 3] w fun e w' => ∃ a cap, e = .returned (.slice a 10 cap) ∧ Zs w' a 10 (lsfL 10 3) ∧ Below w.heap.size w w' := by
  have hl : (lsfL 10 3).length = 10 := by decide
  refine (rlsf_any 10 3 w).mono ?_
  rw [hl]
  rintro e w' ⟨a, c, rfl, hn, hb⟩
  exact ⟨a, c, rfl, Zs.of_new hn hl, hb⟩
theorem search_ten (a : Option Addr) (cap : Nat) (w : World) (hz : Zs w a 10 (lsfL 10 3)) : Calls Try.prog 12 #[.int .i64 10, .slice a 10 cap] w fun e w' => ∃ a' : Option Addr, e = .returned (.tuple #[.agg #[.int .i64 3, .slice a' 10 10], .int .i64 0]) ∧ Zs w' a' 10 (twosZ 10 (lsfL 10 3)) ∧ Below w.heap.size w w' := by
  refine (search_good (lsfL 10 3) a 10 cap w (.inl rfl) hz).mono ?_
  rintro e w' ⟨a', rfl, hn, hb⟩
  refine ⟨a', ?_, Zs.of_new hn (twosZ_len _ _), hb⟩
  show Ending.returned (.tuple #[.agg #[.int .i64 ((oneZ 10 (lsfL 10 3) : Nat) : Int), .slice a' 10 10], .int .i64 0]) = _
  rw [one_three]
  rfl
theorem good_ten (a : Option Addr) (cap : Nat) (w : World) (hz : Zs w a 10 (twosZ 10 (lsfL 10 3))) : Calls Try.prog 13 #[.int .i64 10, .agg #[.int .i64 3, .slice a 10 cap]] w fun e w' => e = .returned (.bool true) ∧ Below w.heap.size w w' := by
  refine (igood_any 10 3 a 10 cap _ w hz (by decide)).mono ?_
  rintro e w' ⟨bb, rfl, hbb, hb⟩
  have hg : GoodX 10 3 (twosZ 10 (lsfL 10 3)) := by
    have h := found_good (order := 10) (.inl rfl) (lsfL 10 3)
    rw [one_three] at h
    exact h
  rw [hbb.2 hg]
  exact ⟨rfl, hb⟩

set_option maxHeartbeats 2000000 in
theorem awake_any (w : World) :
    Calls Try.prog 9 #[] w fun e w' => e = .returned (.bool true) ∧ Below w.heap.size w w' := by
  have hmk : ∀ W : World, (Instr.makeSlice 27 (.int .i64 10) (.int .i64 10)).run Try.prog W = .ok (.slice (some ⟨W.heap.size, 0, none⟩) 10 10) (W.alloc (.cells (madeCells #[.int .i64 0] 10) 3)) := fun W => run_make_row' (P := Try.prog) 27 3 (.int .i64 0) 8 Try.underlying27 info_int rfl .i64 .i64 10 (by decide) (by decide) W
  go_enter Try.func9, Try.ntmps9
  go_wp2_with (first
    | (go_at_call 14; go_loud (refine (steady_any _ 2 2 [5, 6] _ (zs_lit w [5, 6] rfl rfl rfl) (by decide)).mono ?_; rintro e w1 ⟨a1, rfl, hn1, hb1⟩; rw [steady_56] at hn1; have hB := ((Below.refl w.heap.size w).alloc (Nat.le_refl _) (.cells #[.int .i64 5, .int .i64 6] 2)).trans (hb1.mono (by simp)); clear hb1))
    | (go_at_call 10; go_loud (refine (decode_good 10 0 _ 10 10 (List.replicate 10 0) _ (zs_made w1 10 rfl) (by decide) good_zero).mono ?_; rintro e w2 ⟨a2, rfl, hn2, hb2⟩; have hB2 := hB.alloc hB.size (.cells (madeCells #[.int .i64 0] 10) 3); replace hn1 := (hn1.alloc _).keep hb2; replace hB := hB2.trans (hb2.mono hB2.size); clear hb2 hn2 hB2))
    | (go_at_call 11; go_loud (refine (between_good _ _ 2 2 2 [0, 8] [4, 0] 1 _ ((zs_lit w2 [0, 8] rfl rfl rfl).alloc _) (zs_lit (w2.alloc _) [4, 0] rfl rfl (by simp)) (by decide) (by decide) (by decide)).mono ?_; rintro e w3 ⟨a3, rfl, hn3, hb3⟩; rw [between_04] at hn3; have hB2 := (hB.alloc hB.size (.cells #[.int .i64 0, .int .i64 8] 2)).alloc (by have := hB.size; simp; omega) (.cells #[.int .i64 4, .int .i64 0] 2); replace hn1 := ((hn1.alloc _).alloc _).keep hb3; replace hB := hB2.trans (hb3.mono hB2.size); clear hb3 hB2))
    | (go_at_call 21; go_loud (refine (lsf_ten _).mono ?_; rintro e w4 ⟨a4, c4, rfl, hz4, hb4⟩; replace hn1 := hn1.keep hb4; replace hn3 := hn3.keep hb4; replace hB := hB.trans (hb4.mono hB.size); clear hb4))
    | (go_at_call 12; go_loud (refine (search_ten _ _ _ hz4).mono ?_; rintro e w5 ⟨a5, rfl, hz5, hb5⟩; obtain ⟨b1, rfl, hl1, h10, h11⟩ := two_cells (hn1.keep hb5); obtain ⟨b3, rfl, hl3, h30, h31⟩ := two_cells (hn3.keep hb5); replace hB := hB.trans (hb5.mono hB.size); have HX5 : Hid (Zs (w5.alloc (.cells #[.int .i64 3, .slice a5 10 10] 29)) a5 10 (twosZ 10 (lsfL 10 3))) := hz5.alloc _; have hB6 := hB.alloc hB.size (.cells #[.int .i64 3, .slice a5 10 10] 29); clear hb5 hz4 hz5 hn1 hn3 hB))
    | (go_at_call 13; go_loud (refine (good_ten _ _ _ HX5.out).mono ?_; rintro e w6 ⟨rfl, hb6⟩; have hB7 := hB6.trans (hb6.mono hB6.size); clear hb6 hB6)))
  go_ret
  exact ⟨rfl, hB7⟩

end Go.Proofs.Ytpppnagodlpnjaa
