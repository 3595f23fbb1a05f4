/- The program's score of a sound. -/
import Derived.Test.YtamiokleolfnoaaPitchE
namespace Go.Proofs.Ytamiokleolfnoaa
namespace Pit
open Go.RowKit

theorem goodLagsB_score {zs : List Int} {lag : Int} (h : goodLagsB zs.length lag lag = true) : scoreI zs lag = pointI (corrI zs lag.toNat (zs.length / 2) (zs.length - zs.length / 2)) (enI zs lag.toNat (zs.length / 2) (zs.length - zs.length / 2)) := by
  have := of_decide_eq_true h
  unfold scoreI
  rw [if_neg (by omega)]
theorem goodLagsB_none {zs : List Int} {lag : Int} (h : goodLagsB zs.length lag lag = false) : scoreI zs lag = 0 := by
  have := of_decide_eq_false h
  unfold scoreI
  rw [if_pos (by omega)]

theorem score_is (a : Option Addr) (n cap : Nat) (zs : List Int) (lag : Int) (w : World) (hz : Zs w a n (s16L zs)) (hg : goodLagsB n lag lag = true) :
    Calls Try.prog 17 #[.slice a n cap, .int .i64 lag] w fun e w' => e = .returned (.int .i64 (scoreI zs lag)) ∧ ∃ k, w' = w.drewN k := by
  have hl := hz.len
  rw [s16L_len] at hl
  have hs := goodLagsB_score (zs := zs) (lag := lag) (by rw [hl]; exact hg)
  have hd := of_decide_eq_true hg
  obtain ⟨L, rfl⟩ : ∃ L : Nat, lag = (L : Int) := ⟨lag.toNat, by omega⟩
  rw [hs, hl, Int.toNat_natCast]
  exact score_any a n cap L zs w hz (by omega) (by omega) (by omega) (by omega)

theorem Score_any (a : Option Addr) (n cap : Nat) (zs : List Int) (lag : Int) (w : World) (hz : Zs w a n zs) (hn : n ≤ maxLen) :
    Calls Try.prog 11 #[.slice a n cap, .int .i64 lag] w fun e w' => e = .returned (.int .i64 (scoreI zs lag)) ∧ Below w.heap.size w w' := by
  have hl := hz.len
  have HZ : Hid (Zs w a n zs) := hz
  have hn2 : n ≤ 9223372036854775807 := by simp only [maxLen] at hn; omega
  clear hz
  cases hg : goodLagsB n lag lag with
  | false =>
    have HS : Hid (scoreI zs lag = 0) := goodLagsB_none (by rw [hl]; exact hg)
    have HG : Hid (goodLagsB n lag lag = false) := hg
    clear hg hl hn
    go_enter Try.func11, Try.ntmps11
    go_wp2_with (go_at_call 14; refine (goodLags_any n hn2 _ _ _).mono ?_; rw [HG.out]; rintro e w' ⟨rfl, rfl⟩)
    go_ret
    rw [HS.out]
    exact ⟨rfl, Below.refl _ _⟩
  | true =>
    have HG : Hid (goodLagsB n lag lag = true) := hg
    have hd := of_decide_eq_true hg
    have HN : Hid (n ≤ 960) := hd.2.1
    have HL : Hid ((s16L zs).length = n) := by show _ = _; rw [s16L_len, hl]
    clear hg hd hl hn
    go_enter Try.func11, Try.ntmps11
    go_wp2_with (first
      | (go_at_call 14; refine (goodLags_any n hn2 _ _ _).mono ?_; rw [HG.out]; rintro e w' ⟨rfl, rfl⟩)
      | (go_at_call 15; refine (saturated_any a n cap zs _ HZ.out (by have := HN.out; omega)).mono ?_; rintro e w1 ⟨a1, rfl, hr1, hb1⟩)
      | (go_at_call 17; refine (score_is a1 n n zs lag _ (Zs.of_new hr1 HL.out) HG.out).mono ?_; rintro e w2 ⟨rfl, k, rfl⟩))
    go_ret
    exact ⟨rfl, below_drewN hb1 k⟩

end Pit
end Go.Proofs.Ytamiokleolfnoaa
