/- The law of filters of one number answers true. -/
import Derived.Test.YtefecpidccpimaaLpcJ
namespace Go.Proofs.Ytefecpidccpimaa
open Go.RowKit

theorem fitZ_in {v : Int} (h : -4091 ≤ v ∧ v ≤ 4091) : fitZ [v] = [v] := by
  refine fitZ_same (fun x hx => ?_) (by rw [stable_one]; exact decide_eq_true h)
  simp at hx
  omega
theorem fit_stable (w : World) (v : Int) (b : Nat) (hn : NewRow 2 0 w (some ⟨b, 0, none⟩) (fitZ [v])) : Calls Try.prog 11 #[.slice (some ⟨b, 0, none⟩) 1 1] w fun e w' => e = .returned (.bool true) ∧ Below w.heap.size w w' := by
  have hl : (fitZ [v]).length = 1 := fitZ_len (by simp)
  refine (cstable_any _ 1 1 (fitZ [v]) _ (Zs.of_new hn hl) (by decide)).mono ?_
  rw [fitZ_stable (by simp)]
  exact fun _ _ h => h

set_option maxHeartbeats 1000000 in
theorem one_case (v : Int) (w : World) (s : Bool) (hs : decide (-4091 ≤ v ∧ v ≤ 4091) = s) (p q : Bool) (hp : decide (-4091 ≤ v) = p) (hq : decide (v ≤ 4091) = q) (hpq : p = s ∧ q = true ∨ p = true ∧ q = s) (x : Int) (hx : (fitZ [v])[0]?.getD 0 = x) (hsx : s = true → x = v) :
    Calls Try.prog 8 #[.int .i64 v] w fun e w' => e = .returned (.bool true) ∧ Below w.heap.size w w' := by
  have HS : Hid (∀ W, Calls Try.prog 11 #[.slice (some ⟨W.heap.size, 0, none⟩) 1 1] (W.alloc (.cells #[.int .i64 v] 2)) fun e w' => e = .returned (.bool s) ∧ Below W.heap.size W w') := fun W => by rw [← hs]; exact stable_lit W v
  have HX : Hid (∀ B W b, NewRow 2 B W (some ⟨b, 0, none⟩) (fitZ [v]) → W.cell? ⟨b, 0, none⟩ = some (.int .i64 x) ∧ b < W.heap.size) := fun B W b h => by
    have hl : (fitZ [v]).length = 1 := fitZ_len (by simp)
    have := h.cellAt (i := 0) (by omega)
    rw [hx] at this
    exact ⟨this, (h.ge (by omega)).2⟩
  have y1 : Hid True := trivial
  clear hx
  rcases Bool.eq_false_or_eq_true s with e | e
  · subst e
    have h1 : -4091 ≤ v ∧ v ≤ 4091 := of_decide_eq_true hs
    have e1 : ((-4091 : Int) ≤ v) = True := eq_true h1.1
    have e2 : (v ≤ (4091 : Int)) = True := eq_true h1.2
    obtain rfl := hsx rfl
    clear hs hp hq hpq hsx h1
    go_enter Try.func8, Try.ntmps8
    go_wp2_with (first
      | (go_at_call 9; refine (awake_any _).mono ?_; rintro e w1 ⟨rfl, hB⟩)
      | (go_at_call 11; clear y1; go_loud (refine (HS.out _).mono ?_; rintro e w2 ⟨rfl, hb2⟩; have hB2 := hB.trans (hb2.mono hB.size); clear hb2 hB))
      | (go_at_call 12; go_loud (refine (fit_lit _ _).mono ?_; rintro e w3 ⟨b3, rfl, hn3, hb3⟩; obtain ⟨hc3, hl3⟩ := HX.out _ _ _ hn3; have hB3 := hB2.trans (hb3.mono hB2.size); clear hb3 hB2))
      | (go_at_call 11; go_loud (refine (fit_stable _ _ _ (hn3.mono (Nat.zero_le _))).mono ?_; rintro e w4 ⟨rfl, hb4⟩; have hc4 := (hb4.cell (p := ⟨b3, 0, none⟩) hl3).trans hc3; have hB4 := hB3.trans (hb4.mono hB3.size); clear hb4 hB3 hc3 hn3)))
    go_ret
    exact ⟨by simp, hB4⟩
  · subst e
    have h1 : ¬ (-4091 ≤ v ∧ v ≤ 4091) := of_decide_eq_false hs
    rcases Int.lt_or_le v (-4091) with h2 | h2
    · have e1 : ((-4091 : Int) ≤ v) = False := eq_false (by omega)
      clear hs hp hq hpq hsx h1 h2
      go_enter Try.func8, Try.ntmps8
      go_wp2_with (first
        | (go_at_call 9; refine (awake_any _).mono ?_; rintro e w1 ⟨rfl, hB⟩)
        | (go_at_call 11; clear y1; go_loud (refine (HS.out _).mono ?_; rintro e w2 ⟨rfl, hb2⟩; have hB2 := hB.trans (hb2.mono hB.size); clear hb2 hB))
        | (go_at_call 12; go_loud (refine (fit_lit _ _).mono ?_; rintro e w3 ⟨b3, rfl, hn3, hb3⟩; have hB3 := hB2.trans (hb3.mono hB2.size); clear hb3 hB2))
        | (go_at_call 11; go_loud (refine (fit_stable _ _ _ (hn3.mono (Nat.zero_le _))).mono ?_; rintro e w4 ⟨rfl, hb4⟩; have hB4 := hB3.trans (hb4.mono hB3.size); clear hb4 hB3 hn3)))
      go_ret
      exact ⟨by simp, hB4⟩
    · have e1 : ((-4091 : Int) ≤ v) = True := eq_true h2
      have e2 : (v ≤ (4091 : Int)) = False := eq_false (by omega)
      clear hs hp hq hpq hsx h1 h2
      go_enter Try.func8, Try.ntmps8
      go_wp2_with (first
        | (go_at_call 9; refine (awake_any _).mono ?_; rintro e w1 ⟨rfl, hB⟩)
        | (go_at_call 11; clear y1; go_loud (refine (HS.out _).mono ?_; rintro e w2 ⟨rfl, hb2⟩; have hB2 := hB.trans (hb2.mono hB.size); clear hb2 hB))
        | (go_at_call 12; go_loud (refine (fit_lit _ _).mono ?_; rintro e w3 ⟨b3, rfl, hn3, hb3⟩; have hB3 := hB2.trans (hb3.mono hB2.size); clear hb3 hB2))
        | (go_at_call 11; go_loud (refine (fit_stable _ _ _ (hn3.mono (Nat.zero_le _))).mono ?_; rintro e w4 ⟨rfl, hb4⟩; have hB4 := hB3.trans (hb4.mono hB3.size); clear hb4 hB3 hn3)))
      go_ret
      exact ⟨by simp, hB4⟩

theorem lpcOne.walk (v : Int) (w : World) (_hv : (Lit.int .i64 v).wf = true) :
    Calls Try.prog 8 #[.int .i64 v] w fun e w' => e = .returned (.bool true) ∧ Below w.heap.size w w' := by
  refine one_case v w _ rfl _ _ rfl rfl ?_ _ rfl ?_
  · by_cases h : -4091 ≤ v
    · exact .inr ⟨decide_eq_true h, by simp [h]⟩
    · exact .inl ⟨by simp [h], decide_eq_true (by omega)⟩
  · intro h
    rw [fitZ_in (of_decide_eq_true h)]
    rfl

end Go.Proofs.Ytefecpidccpimaa
