/- The laws' own opening examples hold, in whatever memory where the two variables lie as the program's text lays them. -/
import Derived.Test.YtjcbcmloenhohabDoorTabsJ
namespace Go.Proofs.YtjcbcmloenhohabDoor
open Go.RowKit

theorem lsf_len (n : Nat) (h : n = 10 ∨ n = 16) (i : Int) (h0 : 0 ≤ i) (h1 : i ≤ 15) : (lsfL n i).length = n := by
  rw [lsf_some (by omega) h0 h1]; simp

theorem win_len (n : Nat) (h0 : 1 ≤ n) (h1 : n ≤ 480) : (winL n).length = n := by
  rw [winL_some (by omega) (by omega)]; simp

/-- What holds of a list that a call made holds wherever memory has only grown since. -/
theorem NewRow.keep {e : TypeId} {B : Nat} {w w' : World} {a : Option Addr} {zs : List Int} (h : NewRow e B w a zs) (hb : Below w.heap.size w w') : NewRow e B w' a zs := h.below hb (Nat.le_refl _)

theorem EdgesAt.keep {w w' : World} (h : EdgesAt w) (hb : Below w.heap.size w w') : EdgesAt w' := h.below hb (Nat.le_refl _)
theorem TapsAt.keep {w w' : World} (h : TapsAt w) (hb : Below w.heap.size w w') : TapsAt w' := h.below hb (Nat.le_refl _)

theorem good_new (zs : List Int) (n : Nat) (a : Option Addr) (c B : Nat) (e : TypeId) (w : World) (h : NewRow e B w a zs) (hl : zs.length = n) (hn : n ≤ 1000) :
    Calls Tryd.prog 8 #[.slice a n c] w fun e w' => e = .returned (.bool (goodB zs)) ∧ w' = w := by
  by_cases h0 : n = 0
  · subst h0
    have e1 : zs = [] := List.eq_nil_of_length_eq_zero hl
    have e2 : goodB zs = false := by rw [e1]; rfl
    rw [e2]
    exact good_none a c w
  · obtain ⟨b, ha, _, _, hc⟩ := h.cells (by omega)
    subst ha
    exact good_any zs b 0 n c w hl (by omega) (by omega) (fun i hi => by rw [Nat.zero_add]; exact hc i (by omega))

theorem icdf_0 (w : World) :
    Calls Tryd.prog 5 #[.int .i64 0] w fun e w' => ∃ b c, e = .returned (.slice (some ⟨b, 0, none⟩) 3 c) ∧ NewRow 3 w.heap.size w' (some ⟨b, 0, none⟩) [192, 96, 0] ∧ w'.cell? ⟨b, 0, none⟩ = some (.int .i64 192) ∧ w'.cell? ⟨b, 1, none⟩ = some (.int .i64 96) ∧ Below w.heap.size w w' := by
  refine (icdf_any 0 w).mono ?_
  rintro e w' ⟨a, c, rfl, hn, hb⟩
  obtain ⟨b, rfl, _, _, hc⟩ := hn.cells (by decide)
  exact ⟨b, c, rfl, hn, hc 0 (by decide), hc 1 (by decide), hb⟩

set_option maxHeartbeats 1000000 in
theorem awake_any (w : World) (he : EdgesAt w) (ht : TapsAt w) :
    Calls Tryd.prog 4 #[] w fun e w' => e = .returned (.bool true) ∧ Below w.heap.size w w' := by
  have e1 : goodB [192, 96, 0] = true := by decide
  have e2 : edgesN 8000 = 14 := by decide
  have e3 : binsP 8000 10 9 = (40, 48) := by decide
  have e4 : orderI 16000 = 16 := by decide
  have e5 : rateB 24000 = true := by decide
  have e6 : (winL 20).length = 20 := win_len 20 (by decide) (by decide)
  have e7 : (lsfL 10 0).length = 10 := lsf_len 10 (.inl rfl) 0 (by decide) (by decide)
  have e8 : tapsV 0 = .agg #[.int .i64 13, .int .i64 22, .int .i64 39, .int .i64 23, .int .i64 12] := rfl
  have e9 : ∀ W : World, (Instr.index 34 (.agg #[.int .i64 13, .int .i64 22, .int .i64 39, .int .i64 23, .int .i64 12]) (.int .i64 2)).run Tryd.prog W = .ok (.int .i64 39) W := fun W => by kernel_rfl
  have hb := Below.refl w.heap.size w
  go_enter Tryd.func4, Tryd.ntmps4
  go_wp2_with (first
    | (go_at_call 5; refine (icdf_0 _).mono ?_; rintro e w1 ⟨b, c, rfl, hn, hc0, hc1, hb1⟩; replace hb := hb.trans (hb1.mono hb.size); clear hb1)
    | (go_at_call 9; refine (bins_any _ _ _ _ (he.keep hb)).mono ?_; rintro e w2 ⟨rfl, nd, rfl⟩; replace hb := below_drewN hb nd; replace hn := hn.keep (below_drewN (Below.refl _ _) nd))
    | (go_at_call 8; refine (good_new [192, 96, 0] 3 _ _ _ _ _ hn rfl (by decide)).mono ?_; rintro e w' ⟨rfl, rfl⟩)
    | (go_at_call 6; refine (edges_any _ _ (he.keep hb)).mono ?_; rintro e w3 ⟨a3, c3, rfl, hn3, hb3⟩; replace hb := hb.trans (hb3.mono hb.size); clear hb3 hn3)
    | (go_at_call 10; refine (order_any _ _).mono ?_; rintro e w' ⟨rfl, rfl⟩)
    | (go_at_call 11; refine (rate_any _ _).mono ?_; rintro e w' ⟨rfl, rfl⟩)
    | (go_at_call 7; refine (window_any _ _).mono ?_; rintro e w4 ⟨a4, c4, rfl, hn4, hb4⟩; replace hb := hb.trans (hb4.mono hb.size); clear hb4 hn4)
    | (go_at_call 12; refine (lsf_any _ _ _).mono ?_; rintro e w5 ⟨a5, c5, rfl, hn5, hb5⟩; replace hb := hb.trans (hb5.mono hb.size); clear hb5 hn5)
    | (go_at_call 13; refine (taps_any _ _ (ht.keep hb)).mono ?_; rintro e w6 ⟨rfl, hb6⟩; replace hb := hb.trans (hb6.mono hb.size); clear hb6)
    | (go_at_call 14; refine (filters_any _).mono ?_; rintro e w' ⟨rfl, rfl⟩))
  go_ret
  exact ⟨rfl, hb⟩

end Go.Proofs.YtjcbcmloenhohabDoor
