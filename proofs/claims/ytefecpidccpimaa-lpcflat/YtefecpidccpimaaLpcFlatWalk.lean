/- The law of frequencies that lie alike apart answers true. -/
import Derived.Test.YtefecpidccpimaaLpcJ
namespace Go.Proofs.Ytefecpidccpimaa
open Go.RowKit

theorem flatZ_len (n : Nat) : (flatZ n).length = n := by unfold flatZ; rw [List.length_map, List.length_range]
theorem flatZ_at {n k : Nat} (h : k < n) : (flatZ n)[k]?.getD 0 = 32768 * ((k : Int) + 1) / ((n : Int) + 1) := by
  unfold flatZ
  rw [List.getElem?_map, List.getElem?_range h]
  rfl
theorem small_at {l : List Int} (h : smallB l = true) {k : Nat} (hk : k < l.length) : -200 ≤ l[k]?.getD 0 ∧ l[k]?.getD 0 ≤ 200 := by
  unfold smallB at h
  rw [List.all_eq_true] at h
  have := h _ (mem_at hk)
  exact of_decide_eq_true this

set_option maxHeartbeats 2000000 in
theorem flat_other (order : Int) (w : World) (h10 : order ≠ 10) (h16 : order ≠ 16) :
    Calls Try.prog 6 #[.int .i64 order] w fun e w' => e = .returned (.bool true) ∧ Below w.heap.size w w' := by
  have e1 : (order != 10) = true := by simp [h10]
  have e2 : (order != 16) = true := by simp [h16]
  go_enter Try.func6, Try.ntmps6
  go_wp2_with (go_at_call 9; refine (awake_any _).mono ?_; rintro e w1 ⟨rfl, hB⟩)
  go_ret
  exact ⟨rfl, hB⟩

set_option maxRecDepth 100000 in
set_option maxHeartbeats 4000000 in
theorem flat_any (n h : Nat) (w : World) (hn : n = 10 ∧ h = 5 ∨ n = 16 ∧ h = 8) :
    Calls Try.prog 6 #[.int .i64 (n : Int)] w fun e w' => e = .returned (.bool true) ∧ Below w.heap.size w w' := by
  have HN : Hid (n = 10 ∧ h = 5 ∨ n = 16 ∧ h = 8) := hn
  have hn16 : n ≤ 16 := by omega
  have HSM : Hid (∀ k, k < n → -200 ≤ (fromZ (flatZ n))[k]?.getD 0 ∧ (fromZ (flatZ n))[k]?.getD 0 ≤ 200) := fun k hk => by
    refine small_at ?_ (by rw [fromZ_len (by rw [flatZ_len]; omega), flatZ_len]; exact hk)
    rcases hn with ⟨rfl, _⟩ | ⟨rfl, _⟩
    · exact flat_ten
    · exact flat_sixteen
  have HFL : Hid ((flatZ n).length = n) := flatZ_len n
  have HFA : Hid (∀ k, k < n → (flatZ n)[k]?.getD 0 = 32768 * ((k : Int) + 1) / ((n : Int) + 1)) := fun k hk => flatZ_at hk
  have HZL : Hid ((fromZ (flatZ n)).length = n) := by show _ = _; rw [fromZ_len (by rw [flatZ_len]; omega), flatZ_len]
  have e0 : ((n : Int) != 10) = false ∨ ((n : Int) != 10) = true ∧ ((n : Int) != 16) = false := by
    rcases hn with ⟨rfl, _⟩ | ⟨rfl, _⟩
    · exact .inl rfl
    · exact .inr ⟨rfl, rfl⟩
  have e3 : ((n : Int) == (n : Int)) = true := by simp
  have e4 : ((n : Int) != (n : Int)) = false := by simp
  clear hn
  have HFR : Hid (∀ a cap W, Zs W a n (flatZ n) → Calls Try.prog 10 #[.slice a n cap] W fun e w' => ∃ a', e = .returned (.tuple #[.slice a' n n, .int .i64 0]) ∧ NewRow 2 W.heap.size w' a' (fromZ (flatZ n)) ∧ Below W.heap.size W w') := fun a cap W hz => cfrom_any a n cap h _ W hz HN.out
  generalize fromZ (flatZ n) = G at *
  generalize flatZ n = F at *
  rcases e0 with e1 | ⟨e1, e2⟩
  all_goals
    go_enter Try.func6, Try.ntmps6
    go_wp2_with (go_at_call 9; refine (awake_any _).mono ?_; rintro e w1 ⟨rfl, hB⟩)
    have HB : Hid (Below w.heap.size w w1) := hB
    clear hB
    go_loopw [3, 4] (fun v i W => ∃ k : Nat, k ≤ n ∧ i = .int .i64 k ∧ Hid (W.ownsRow w1.heap.size 2 1 v k ((F.take k).map (Value.int .i64)) ∧ Below w1.heap.size w1 W)) (fun _ i _ => n - (intOf i).toNat)
    case atStart => exact ⟨0, Nat.zero_le _, rfl, World.ownsRow_nil _ _ _ _, Below.refl _ _⟩
    case round =>
      obtain ⟨k, hk, rfl, HH⟩ := hrel
      by_cases hlt : k < n
      · have hlt' : ((k : Int) < (n : Int)) = True := eq_true (by omega)
        have hown := HH.out.1
        have hbel := HH.out.2
        have hB := hbel.size
        have hv := HFA.out k hlt
        have HT : Hid (F.take k ++ [F[k]?.getD 0] = F.take (k + 1)) := (take_snoc (by rw [HFL.out]; exact hlt)).symm
        have hdiv : Int.tdiv (32768 * ((k : Int) + 1)) ((n : Int) + 1) = 32768 * ((k : Int) + 1) / ((n : Int) + 1) := Int.tdiv_eq_ediv_of_nonneg (by omega)
        have hdn : 0 ≤ 32768 * ((k : Int) + 1) / ((n : Int) + 1) ∧ 32768 * ((k : Int) + 1) / ((n : Int) + 1) ≤ 32768 := quot_in (by omega) (by omega)
        rw [← hv] at hdiv hdn
        have hw1 : IntKind.i64.wrap ((k : Int) + 1) = (k : Int) + 1 := by rw [IntKind.wrap_i64]; omega
        have hw2 : IntKind.i64.wrap (32768 * ((k : Int) + 1)) = 32768 * ((k : Int) + 1) := by rw [IntKind.wrap_i64]; omega
        have hw3 : IntKind.i64.wrap ((n : Int) + 1) = (n : Int) + 1 := by rw [IntKind.wrap_i64]; omega
        have hne : ((n : Int) + 1 == 0) = false := by simp; omega
        have HM : Hid (n - (k + 1) < n - k) := by show _ < _; omega
        generalize F[k]?.getD 0 = y at *
        clear HH HFA HSM hv
        go_wp2_with (at_builtin; refine wpList_append_one 23 2 Try.underlying23 info_int64 w1.heap.size _ k (F.take k) _ hown (by omega) hB rfl _ _ rfl rfl rfl ?_; rw [HT.out]; intro v' w6 hown6 hb6; have hb7 := hbel.trans hb6)
        go_roundw
        case rel => exact ⟨k + 1, by omega, by go_num, hown6, hb7⟩
        case measure => simp [intOf]; exact HM.out
      · have hlt' : ((k : Int) < (n : Int)) = False := eq_false (by omega)
        have hk' : k = n := by omega
        subst hk'
        have hown := HH.out.1
        have hbel := HH.out.2
        rw [List.take_of_length_le (by rw [HFL.out]; omega)] at hown
        obtain ⟨_, a', c', rfl, hnew⟩ := NewRow.of_owned hown
        have HB2 : Hid (Below w.heap.size w wr) := HB.out.trans (hbel.mono HB.out.size)
        have hz := Zs.of_new hnew HFL.out
        clear hown HH HFA hnew hbel
        go_wp2_with (go_at_call 10; refine (HFR.out _ _ _ hz).mono ?_; rintro e w5 ⟨a5, rfl, hn5, hb5⟩)
        have HB3 : Hid (Below w.heap.size w w5) := HB2.out.trans (hb5.mono HB2.out.size)
        have HZ5 : Hid (∀ d, Zs (w5.drewN d) a5 k G) := fun d => (Zs.of_new hn5 HZL.out).drewN d
        clear hn5 hb5 hz HFR
        go_loopw [7] (fun i W => (∃ d, W = w5.drewN d) ∧ ∃ m : Nat, m ≤ k ∧ i = .int .i64 m) (fun i _ => k - (intOf i).toNat)
        case atStart => exact ⟨⟨0, rfl⟩, 0, Nat.zero_le _, rfl⟩
        case round =>
          obtain ⟨⟨d, rfl⟩, m, hm, rfl⟩ := hrel
          by_cases hml : m < k
          · have hml' : ((m : Int) < (k : Int)) = True := eq_true (by omega)
            obtain ⟨b, off, rfl, _, hc⟩ := (HZ5.out d).at_ (by omega)
            have hcm := hc m hml
            have hs := HSM.out m hml
            generalize G[m]?.getD 0 = z at *
            have hz1 : ((200 : Int) < z) = False := eq_false (by omega)
            have hz2 : (z < (-200 : Int)) = False := eq_false (by omega)
            clear hc HSM hs
            go_wp2
            (try go_quiet (fail))
            all_goals
              go_wp2
              go_roundw
              case rel => exact ⟨⟨_, rfl⟩, m + 1, by omega, by go_num⟩
              case measure => simp [intOf]; omega
          · have hml' : ((m : Int) < (k : Int)) = False := eq_false (by omega)
            clear HSM HZ5
            go_wp2
            go_ret
            exact ⟨rfl, below_drewN HB3.out d⟩

theorem lpcFlat.walk (order : Int) (w : World) (_h : (Lit.int .i64 order).wf = true) :
    Calls Try.prog 6 #[.int .i64 order] w fun e w' => e = .returned (.bool true) ∧ Below w.heap.size w w' := by
  by_cases h10 : order = 10
  · subst h10
    exact flat_any 10 5 w (.inl ⟨rfl, rfl⟩)
  · by_cases h16 : order = 16
    · subst h16
      exact flat_any 16 8 w (.inr ⟨rfl, rfl⟩)
    · exact flat_other order w h10 h16

end Go.Proofs.Ytefecpidccpimaa
