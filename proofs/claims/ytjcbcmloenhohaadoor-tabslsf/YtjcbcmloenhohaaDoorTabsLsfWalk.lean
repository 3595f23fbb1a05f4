/- The law of the first table's frequencies answers true, of any order and place. -/
import Derived.Test.YtjcbcmloenhohaaDoorTabsK
namespace Go.Proofs.YtjcbcmloenhohaaDoor
open Go.RowKit

theorem lsf_apart_10 : ∀ i : Nat, i < 16 → ∀ k : Nat, k < 10 → 400 ≤ lsfAt 10 i k - (if k = 0 then 0 else lsfAt 10 i (k - 1)) ∧ lsfAt 10 i k < 32368 ∧ 0 ≤ lsfAt 10 i k := by decide +kernel
theorem lsf_apart_16 : ∀ i : Nat, i < 16 → ∀ k : Nat, k < 16 → 400 ≤ lsfAt 16 i k - (if k = 0 then 0 else lsfAt 16 i (k - 1)) ∧ lsfAt 16 i k < 32368 ∧ 0 ≤ lsfAt 16 i k := by decide +kernel

theorem lsf_law_none (order i : Int) (w : World) (he : EdgesAt w) (ht : TapsAt w) (h : lsfNone order i) :
    Calls Tryd.prog 8 #[.int .i64 order, .int .i64 i] w fun e w' => e = .returned (.bool true) ∧ Below w.heap.size w w' := by
  have HL : Hid ((lsfL order i).length = 0) := by
    show _ = _
    rw [lsfL, if_pos h]; rfl
  have h3 : (¬ order = 10 ∧ ¬ order = 16) ∨ i < 0 ∨ 15 < i := h
  clear h
  have hb := Below.refl w.heap.size w
  rcases h3 with ⟨n1, n2⟩ | hi | hi
  case' inl =>
    have q1 : (order != 10) = true := by rw [bne_iff_ne]; exact n1
    have q2 : (order != 16) = true := by rw [bne_iff_ne]; exact n2
  all_goals
    go_enter Tryd.func8, Tryd.ntmps8
    go_wp2_with (first
      | (go_at_call 9; refine (awake_any _ he ht).mono ?_; rintro e w1 ⟨rfl, hw1⟩; replace hb := hb.trans (hw1.mono hb.size); clear hw1)
      | (go_at_call 13; refine (lsf_any _ _ _).mono ?_; rw [HL.out]; rintro e w5 ⟨a5, c5, rfl, hn5, hb5⟩; replace hb := hb.trans (hb5.mono hb.size); clear hb5 hn5))
    all_goals
      go_ret
      exact ⟨rfl, hb⟩

theorem lsf_law_some (n : Nat) (i : Int) (w : World) (he : EdgesAt w) (ht : TapsAt w) (h16 : n = 10 ∨ n = 16) (h0 : 0 ≤ i) (h1 : i ≤ 15)
    (hap : ∀ k : Nat, k < n → 400 ≤ lsfAt n i k - (if k = 0 then 0 else lsfAt n i (k - 1)) ∧ lsfAt n i k < 32368 ∧ 0 ≤ lsfAt n i k) :
    Calls Tryd.prog 8 #[.int .i64 (n : Int), .int .i64 i] w fun e w' => e = .returned (.bool true) ∧ Below w.heap.size w w' := by
  have HL : Hid ((lsfL n i).length = n) := lsf_len n h16 i h0 h1
  have HZ : Hid (lsfL n i = (List.range n).map (lsfAt n i)) := lsf_some (by omega) h0 h1
  have HA : Hid (∀ k : Nat, k < n → 400 ≤ lsfAt n i k - (if k = 0 then 0 else lsfAt n i (k - 1)) ∧ lsfAt n i k < 32368 ∧ 0 ≤ lsfAt n i k) := hap
  clear hap
  have hn : 10 ≤ n ∧ n ≤ 16 := by omega
  have hb := Below.refl w.heap.size w
  rcases h16 with h | h
  case' inl =>
    have q1 : ((n : Int) != 10) = false := by rw [h]; rfl
  case' inr =>
    have q1 : ((n : Int) != 10) = true := by rw [h]; rfl
    have q2 : ((n : Int) != 16) = false := by rw [h]; rfl
  all_goals
    clear h
    generalize lsfAt n i = f at HZ HA
    go_enter Tryd.func8, Tryd.ntmps8
    go_wp2_with (first
      | (go_at_call 9; refine (awake_any _ he ht).mono ?_; rintro e w1 ⟨rfl, hw1⟩; replace hb := hb.trans (hw1.mono hb.size); clear hw1)
      | (go_at_call 13; refine (lsf_any _ _ _).mono ?_; rw [HL.out]; rw [HZ.out]; rintro e w5 ⟨a5, c5, rfl, hn5, hb5⟩; replace hb := hb.trans (hb5.mono hb.size); clear hb5; obtain ⟨bl, rfl, _, _, hc⟩ := hn5.cells (by simp; omega); have HC : Hid (∀ k, k < n → w5.cell? ⟨bl, k, none⟩ = some (.int .i64 (f k))) := fun k hk => (hc k (by simpa using hk)).trans (by rw [map_range_at f n k hk]); clear hc hn5))
    go_loop [6, 7] (fun was k => ∃ m : Nat, ∃ v : Int, m ≤ n ∧ k = .int .i64 m ∧ was = .int .i64 v ∧ Hid ((if m = 0 then 0 else f (m - 1)) = v)) (fun _ k => n - (intOf k).toNat)
    case atStart => exact ⟨0, 0, Nat.zero_le _, rfl, rfl, by show _ = _; exact if_pos rfl⟩
    case round =>
      obtain ⟨m, was, hm, rfl, rfl, HW⟩ := hrel
      have hwas : 0 ≤ (if m = 0 then (0 : Int) else f (m - 1)) ∧ (if m = 0 then (0 : Int) else f (m - 1)) < 32368 := by
        split
        · decide
        · exact ⟨(HA.out (m - 1) (by omega)).2.2, (HA.out (m - 1) (by omega)).2.1⟩
      rw [HW.out] at hwas
      by_cases hlt : m < n
      · have hck := HC.out m hlt
        have ha := HA.out m hlt
        rw [HW.out] at ha
        generalize hfm : f m = fm at hck ha
        have HF : Hid (f m = fm) := hfm
        clear hfm
        go_wp2
        go_round
        case rel => exact ⟨m + 1, fm, by omega, by go_num, rfl, by show _ = _; rw [if_neg (by omega), Nat.add_sub_cancel, HF.out]⟩
        case measure => simp [intOf]; omega
      · have hm' : m = n := by omega
        subst hm'
        go_wp2
        go_ret
        exact ⟨rfl, hb⟩

theorem tabsLsf.walk (order i : Int) (w : World) (_w0 : (Lit.int .i64 order).wf = true) (_w1 : (Lit.int .i64 i).wf = true) (hr : EdgesAt w ∧ TapsAt w) :
    Calls Tryd.prog 8 #[.int .i64 order, .int .i64 i] w fun e w' => e = .returned (.bool true) ∧ Below w.heap.size w w' := by
  by_cases h : lsfNone order i
  · exact lsf_law_none order i w hr.1 hr.2 h
  · have h16 : order = 10 ∨ order = 16 := by unfold lsfNone at h; omega
    have h0 : 0 ≤ i := by unfold lsfNone at h; omega
    have h1 : i ≤ 15 := by unfold lsfNone at h; omega
    obtain ⟨j, rfl⟩ := Int.eq_ofNat_of_zero_le h0
    rcases h16 with rfl | rfl
    · exact lsf_law_some 10 j w hr.1 hr.2 (.inl rfl) h0 h1 (lsf_apart_10 j (by omega))
    · exact lsf_law_some 16 j w hr.1 hr.2 (.inr rfl) h0 h1 (lsf_apart_16 j (by omega))

end Go.Proofs.YtjcbcmloenhohaaDoor
