/- What more calls of package tabs, and of the document's own answers beside them, come to: bins, taps, frequencies; and two small walks of the laws: are two lists the same? -/
import Derived.Test.YtjcbcmloenhohaaDoorTabsB
import Derived.Deep.MidRow
namespace Go.Proofs.YtjcbcmloenhohaaDoor
open Go.RowKit

/-! ### Bins -/
def binsP (rate ms band : Int) : Int × Int :=
  if wideI ms = 0 ∨ band < 0 ∨ (edgesN rate : Int) - 1 ≤ band then (0, 0) else (wideI ms * edgesL[band.toNat]?.getD 0, wideI ms * edgesL[band.toNat + 1]?.getD 0)

theorem binsP_none {rate ms band : Int} (h : wideI ms = 0 ∨ band < 0 ∨ (edgesN rate : Int) - 1 ≤ band) : binsP rate ms band = (0, 0) := by rw [binsP, if_pos h]

theorem edge_in (i : Nat) : 0 ≤ edgesL[i]?.getD 0 ∧ edgesL[i]?.getD 0 ≤ 60 := at_list (fun x => 0 ≤ x ∧ x ≤ 60) (by decide) edgesL (by decide) i

theorem wideI_in (ms : Int) : 0 ≤ wideI ms ∧ wideI ms ≤ 8 := by
  unfold wideI
  split
  · decide
  · split <;> decide

theorem wide_mul {a b : Int} (ha : 0 ≤ a ∧ a ≤ 8) (hb : 0 ≤ b ∧ b ≤ 60) : 0 ≤ a * b ∧ a * b ≤ 480 :=
  ⟨Int.mul_nonneg ha.1 hb.1, Int.mul_le_mul ha.2 hb.2 hb.1 (by decide)⟩

theorem bins_any (rate ms band : Int) (w : World) (he : EdgesAt w) :
    Calls Tryd.prog 18 #[.int .i64 rate, .int .i64 ms, .int .i64 band] w fun e w' => e = .returned (.tuple #[.int .i64 (binsP rate ms band).1, .int .i64 (binsP rate ms band).2]) ∧ ∃ n, w' = w.drewN n := by
  have hle := edgesN_le rate
  by_cases h1 : wideI ms = 0
  · rw [binsP_none (.inl h1)]
    have h1' : Hid (wideI ms = 0) := h1
    clear h1
    go_enter Tryd.func18, Tryd.ntmps18
    go_wp2_with (first
      | (go_at_call 33; refine (binsOfEdge_any _ _).mono ?_; rw [h1'.out]; rintro e w' ⟨rfl, rfl⟩)
      | (go_at_call 30; refine (edgesOf_any _ _).mono ?_; rintro e w' ⟨rfl, rfl⟩))
    go_ret2
    exact ⟨rfl, 0, rfl⟩
  · by_cases h2 : band < 0
    · rw [binsP_none (.inr (.inl h2))]
      go_enter Tryd.func18, Tryd.ntmps18
      go_wp2_with (first
        | (go_at_call 33; refine (binsOfEdge_any _ _).mono ?_; rintro e w' ⟨rfl, rfl⟩)
        | (go_at_call 30; refine (edgesOf_any _ _).mono ?_; rintro e w' ⟨rfl, rfl⟩))
      go_ret2
      exact ⟨rfl, 0, rfl⟩
    · by_cases h3 : (edgesN rate : Int) - 1 ≤ band
      · rw [binsP_none (.inr (.inr h3))]
        go_enter Tryd.func18, Tryd.ntmps18
        go_wp2_with (first
          | (go_at_call 33; refine (binsOfEdge_any _ _).mono ?_; rintro e w' ⟨rfl, rfl⟩)
          | (go_at_call 30; refine (edgesOf_any _ _).mono ?_; rintro e w' ⟨rfl, rfl⟩))
        go_ret2
        exact ⟨rfl, 0, rfl⟩
      · have e : binsP rate ms band = (wideI ms * edgesL[band.toNat]?.getD 0, wideI ms * edgesL[band.toNat + 1]?.getD 0) := by
          rw [binsP, if_neg (by rintro (h | h | h) <;> omega)]
        rw [e]; clear e
        obtain ⟨k, rfl⟩ := Int.eq_ofNat_of_zero_le (show 0 ≤ band by omega)
        have hk : k + 1 < 20 := by omega
        obtain ⟨b, off, hlt, hg, hc⟩ := he
        have hc0 := hc k (by omega)
        have hc1 := hc (k + 1) hk
        have hw := wideI_in ms
        have m0 := wide_mul hw (edge_in k)
        have m1 := wide_mul hw (edge_in (k + 1))
        rw [show ((k : Int)).toNat = k from rfl]
        clear hc
        generalize edgesL[k]?.getD 0 = x at *
        generalize edgesL[k + 1]?.getD 0 = y at *
        generalize hW : wideI ms = W at *
        generalize hN : edgesN rate = N at *
        have hW' : Hid (wideI ms = W) := hW
        have hN' : Hid (edgesN rate = N) := hN
        clear hW hN
        have q1 : (W == 0) = false := beq_eq_false_iff_ne.2 h1
        have q2 : decide ((k : Int) < 0) = false := decide_eq_false h2
        have q3 : decide ((N : Int) - 1 ≤ (k : Int)) = false := decide_eq_false h3
        go_enter Tryd.func18, Tryd.ntmps18
        go_wp2_with (first
          | (go_at_call 33; refine (binsOfEdge_any _ _).mono ?_; rw [hW'.out]; rintro e w' ⟨rfl, rfl⟩)
          | (go_at_call 30; refine (edgesOf_any _ _).mono ?_; rw [hN'.out]; rintro e w' ⟨rfl, rfl⟩))
        go_quiet (fail)
        all_goals
          go_wp2
          go_ret2
          exact ⟨rfl, _, rfl⟩

theorem ms_wide (ms : Int) : (ms = 10 ∧ wideI ms = 4) ∨ (ms = 20 ∧ wideI ms = 8) ∨ (¬ ms = 10 ∧ ¬ ms = 20 ∧ wideI ms = 0) := by
  unfold wideI
  by_cases h1 : ms = 10
  · exact .inl ⟨h1, by rw [if_pos h1]⟩
  · by_cases h2 : ms = 20
    · exact .inr (.inl ⟨h2, by rw [if_neg h1, if_pos h2]⟩)
    · exact .inr (.inr ⟨h1, h2, by rw [if_neg h1, if_neg h2]⟩)

theorem ret_two {k l : IntKind} {a b c d : Int} (h : a = b) (h2 : c = d) : Ending.returned (.tuple #[.int k a, .int l c]) = .returned (.tuple #[.int k b, .int l d]) := by rw [h, h2]

theorem binsP_in {rate ms W : Int} {k : Nat} (hk : k + 1 < edgesN rate) (hw : wideI ms = W) (h : ¬ W = 0) : binsP rate ms (k : Int) = (W * edgesL[k]?.getD 0, W * edgesL[k + 1]?.getD 0) := by
  rw [binsP, if_neg (by rintro (h | h | h) <;> omega), hw]
  rfl

theorem rbins_any (rate ms band : Int) (w : World) :
    Calls Tryd.prog 19 #[.int .i64 rate, .int .i64 ms, .int .i64 band] w fun e w' => e = .returned (.tuple #[.int .i64 (binsP rate ms band).1, .int .i64 (binsP rate ms band).2]) ∧ Below w.heap.size w w' := by
  have hle := edgesN_le rate
  have hNew : Hid (∀ (w1 : World) (B : Nat) (a : Option Addr), NewRow 3 B w1 a (edgesOfL rate) → ∀ k : Nat, k + 1 < edgesN rate → ∃ b, a = some ⟨b, 0, none⟩ ∧ w1.cell? ⟨b, k, none⟩ = some (.int .i64 (edgesL[k]?.getD 0)) ∧ w1.cell? ⟨b, k + 1, none⟩ = some (.int .i64 (edgesL[k + 1]?.getD 0))) := fun w1 B a h k hk => by
    have hl := edgesOfL_len rate
    obtain ⟨b, ha, _, _, hc⟩ := h.cells (by omega)
    refine ⟨b, ha, ?_, ?_⟩
    · rw [hc k (by omega), edgesOfL, edges_take _ hle k (by omega)]
    · rw [hc (k + 1) (by omega), edgesOfL, edges_take _ hle (k + 1) (by omega)]
  by_cases hb : band < 0 ∨ (edgesN rate : Int) - 1 ≤ band ∨ 20 ≤ band
  · rw [binsP_none (by omega)]
    have hb3 : band < 0 ∨ (0 ≤ band ∧ band ≤ 1000 ∧ (edgesN rate : Int) ≤ band + 1) ∨ 1000 < band := by omega
    clear hNew hb
    rcases ms_wide ms with ⟨rfl, _⟩ | ⟨rfl, _⟩ | ⟨n1, n2, _⟩
    case' inr.inr =>
      have n1' : (ms == 10) = false := beq_eq_false_iff_ne.2 n1
      have n2' : (ms == 20) = false := beq_eq_false_iff_ne.2 n2
    all_goals
      rcases hb3 with h | ⟨h, h', h''⟩ | h
      all_goals
        go_enter Tryd.func19, Tryd.ntmps19
        go_wp2_with (go_at_call 17; refine (redges_any _ _).mono ?_; rintro e w1 ⟨a, c, rfl, hnew, hbel⟩)
        all_goals
          go_ret2
          exact ⟨rfl, hbel⟩
  · obtain ⟨k, rfl⟩ := Int.eq_ofNat_of_zero_le (show 0 ≤ band by omega)
    have hk : k + 1 < edgesN rate := by omega
    have m0 := edge_in k
    have m1 := edge_in (k + 1)
    clear hb
    rcases ms_wide ms with ⟨rfl, hw⟩ | ⟨rfl, hw⟩ | ⟨n1, n2, hw⟩
    case' inr.inr =>
      rw [binsP_none (.inl hw)]
      have n1' : (ms == 10) = false := beq_eq_false_iff_ne.2 n1
      have n2' : (ms == 20) = false := beq_eq_false_iff_ne.2 n2
      clear hw
      go_enter Tryd.func19, Tryd.ntmps19
      go_wp2_with (go_at_call 17; refine (redges_any _ _).mono ?_; rintro e w1 ⟨a, c, rfl, hnew, hbel⟩)
      go_ret2
      exact ⟨rfl, hbel⟩
    all_goals
      rw [binsP_in hk hw (by decide)]
      clear hw
      generalize hx : edgesL[k]?.getD 0 = x at *
      generalize hy : edgesL[k + 1]?.getD 0 = y at *
      generalize hN : edgesN rate = N at *
      have hN' : Hid (edgesN rate = N) := hN
      have hx' : Hid (edgesL[k]?.getD 0 = x) := hx
      have hy' : Hid (edgesL[k + 1]?.getD 0 = y) := hy
      clear hx hy hN
      go_enter Tryd.func19, Tryd.ntmps19
      go_wp2_with (go_at_call 17; refine (redges_any _ _).mono ?_; rw [hN'.out]; rintro e w1 ⟨a, c, rfl, hnew, hbel⟩; obtain ⟨b, rfl, hc0, hc1⟩ := hNew.out _ _ _ hnew k hk; rw [hx'.out] at hc0; rw [hy'.out] at hc1; clear hnew)
      go_quiet (fail)
      all_goals
        go_wp2
        go_ret2
        exact ⟨ret_two (by omega) (by omega), below_drewN hbel _⟩

end Go.Proofs.YtjcbcmloenhohaaDoor
