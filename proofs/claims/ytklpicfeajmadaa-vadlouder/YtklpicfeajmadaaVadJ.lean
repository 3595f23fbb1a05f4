/- The examples that each law of chapter 13 asks first. -/
import Derived.Test.YtklpicfeajmadaaVadP
namespace Go.Proofs.Ytklpicfeajmadaa
namespace Vad
open Go.RowKit

def r0V (g : Nat) : RowV := ⟨some ⟨g, 0, none⟩, 1, 1, [0]⟩
def r9V (g : Nat) : RowV := ⟨some ⟨g, 0, none⟩, 1, 1, [9999]⟩
theorem aw_lvls (g h : Nat) : lvlsG (two2 (r0V g) (r9V h)) 2 = [0, 6803] := by
  show ([] ++ [levelI [0]]) ++ [levelI [9999]] = _
  rw [lv_0, lv_9999]
  rfl

theorem two_off {g p : Nat} (h : p < g) (i : Nat) (hi : i < 2) (_ : 0 < (two2 (r0V g) (r9V (g + 1)) i).len) (x : Addr) (hx : (two2 (r0V g) (r9V (g + 1)) i).a = some x) : x.block ≠ p :=
  match i, hi, hx with
  | 0, _, hx => by cases hx; show g ≠ p; omega
  | 1, _, hx => by cases hx; show g + 1 ≠ p; omega
theorem bs_two {w : World} {b o : Nat} {x y : Bool} (h : Bs w (some ⟨b, o, none⟩) 2 [x, y]) : w.cell? ⟨b, o, none⟩ = some (.bool x) ∧ w.cell? ⟨b, o + 1, none⟩ = some (.bool y) := by
  obtain ⟨b', o', e, _, hc⟩ := h.at_ (by decide)
  cases e
  exact ⟨hc 0 (by decide), hc 1 (by decide)⟩

set_option maxRecDepth 100000 in
set_option maxHeartbeats 3200000 in
theorem awake_any (w : World) :
    Calls Try.prog 7 #[] w fun e w' => e = .returned (.bool true) ∧ Below w.heap.size w w' := by
  have hb := Below.refl w.heap.size w
  have HX : Hid (2 ≤ maxLen ∧ 1 ≤ maxLen) := by
    unfold maxLen
    exact ⟨by omega, by omega⟩
  have y1 : Hid True := trivial
  have y2 : Hid True := trivial
  have y3 : Hid True := trivial
  have y4 : Hid True := trivial
  go_enter Try.func7, Try.ntmps7
  go_wp2_with (first
    | (go_at_call 9; clear y1; go_loud (refine (pNew _).mono ?_; rintro e w1 ⟨p1, rfl, hp1, hM1, hb1⟩; replace hb := hb.trans hb1; clear hb1))
    | (go_at_call 14; clear y2; go_loud (refine (pFloor p1 _ _ hM1).mono ?_; rintro e w2 ⟨rfl, hw2⟩; subst hw2))
    | (go_at_call 13; clear y3; go_loud (have hax := (Below.refl w2.heap.size w2).alloc (Nat.le_refl _) (.cells #[.int .i64 0, .int .i64 0] 2); refine (pStep p1 ⟨-1, 0⟩ _ 2 2 [0, 0] _ (hM1.keep hax) ok_one (lit2 w2 0 0 rfl) (Nat.le_refl _) HX.out.1).mono ?_; rw [lv_00, td_one, nx_one]; rintro e w3 ⟨rfl, hM3, ho3⟩; replace hb := (hb.trans (hax.mono hb.size)).trans (ho3.below hp1 (Nat.le_trans hb.size hax.size)); clear hax ho3 hM1))
    | (go_at_call 13; go_loud (have hax := (Below.refl w3.heap.size w3).alloc (Nat.le_refl _) (.cells #[.int .i64 1000, .int .i64 (-1000)] 2); refine (pStep p1 ⟨0, 0⟩ _ 2 2 [1000, -1000] _ (hM3.keep hax) ok_two (lit2 w3 1000 (-1000) rfl) (Nat.le_refl _) HX.out.1).mono ?_; rw [lv_1000, td_two, nx_two]; rintro e w4 ⟨rfl, hM4, ho4⟩; replace hb := (hb.trans (hax.mono hb.size)).trans (ho4.below hp1 (Nat.le_trans hb.size hax.size)); clear hax ho4 hM3))
    | (go_at_call 9; go_loud (refine (pNew _).mono ?_; rintro e w5 ⟨p5, rfl, hp5, hM5, hb5⟩; have hM4' := hM4.lt; replace hM4 := hM4.keep hb5; replace hb := hb.trans (hb5.mono hb.size); have hpp : p1 < p5 := Nat.lt_of_lt_of_le hM4' hp5; clear hp5 hb5 hM4'))
    | (go_at_call 10; go_loud (
        have hbx := (((Below.refl w5.heap.size w5).alloc (Nat.le_refl _) (.cells #[.int .i64 0] 2)).alloc (by simp) (.cells #[.int .i64 9999] 2)).alloc (by simp; omega) (.cells #[.slice (some ⟨w5.heap.size, 0, none⟩) 1 1, .slice (some ⟨w5.heap.size + 1, 0, none⟩) 1 1] 28);
        have hl5 := hM5.lt;
        refine (pEach p5 ⟨-1, 0⟩ _ 2 2 (two2 (r0V w5.heap.size) (r9V (w5.heap.size + 1))) _ (hM5.keep hbx) ok_one (grid_two _ (r0V w5.heap.size) (r9V (w5.heap.size + 1)) ((lit1 w5 0 rfl).alloc _) (lit1 (w5.alloc (.cells #[.int .i64 0] 2)) 9999 (by simp)) ⟨Nat.le_refl _, HX.out.2⟩ ⟨Nat.le_refl _, HX.out.2⟩ (fun h => by cases h) (fun h => by cases h) (by simp)) (by omega) (fun _ x hx => by cases hx; show w5.heap.size + 1 + 1 ≠ p5; omega) (two_off hl5)).mono ?_;
        rw [aw_lvls, tl_two]; rintro e w6 ⟨a6, c6, rfl, hB6, ho6⟩;
        have hM6 := (hM4.keep hbx).off ho6 (by omega);
        replace hb := (hb.trans (hbx.mono hb.size)).trans (ho6.below (by omega) (Nat.le_trans hb.size hbx.size));
        obtain ⟨b6, o6, rfl, _, _⟩ := hB6.at_ (by decide);
        clear hbx hl5 hM4 hM5 ho6 hpp))
    | (go_at_call 8; clear y4; go_loud (have hax := (Below.refl w6.heap.size w6).alloc (Nat.le_refl _) (.cells #[.int .i64 0, .int .i64 0] 2); refine (pLevel _ 2 2 [0, 0] _ (lit2 w6 0 0 rfl) (Nat.le_refl _) HX.out.1).mono ?_; rw [lv_00]; rintro e w7 ⟨rfl, k7, hw7⟩; replace hax := below_drewN hax k7; rw [← hw7] at hax; clear hw7; have hM7 := hM6.keep hax; have hB7 := hB6.keep hax; replace hb := hb.trans (hax.mono hb.size); clear hax hM6 hB6))
    | (go_at_call 8; go_loud (have hax := (Below.refl w7.heap.size w7).alloc (Nat.le_refl _) (.cells #[.int .i64 16, .int .i64 16] 2); refine (pLevel _ 2 2 [16, 16] _ (lit2 w7 16 16 rfl) (Nat.le_refl _) HX.out.1).mono ?_; rw [lv_16]; rintro e w8 ⟨rfl, k8, hw8⟩; replace hax := below_drewN hax k8; rw [← hw8] at hax; clear hw8; have hM8 := hM7.keep hax; have hB8 := hB7.keep hax; replace hb := hb.trans (hax.mono hb.size); clear hax hM7 hB7))
    | (go_at_call 14; go_loud (refine (pFloor p1 ⟨8, 4⟩ _ hM8).mono ?_; rintro e w9 ⟨rfl, hw9⟩; subst hw9; have hc0 := bs_two hB8; have hc1 := hc0.2; replace hc0 := hc0.1)))
  go_ret
  exact ⟨rfl, hb⟩

end Vad
end Go.Proofs.Ytklpicfeajmadaa
