/- What more calls of package tabs, and of the document's own answers beside them, come to: bins, taps, frequencies; and two small walks of the laws: are two lists the same? -/
import Derived.Test.YtjcbcmloenhohabDoorTabsB
import Derived.Deep.MidRow
namespace Go.Proofs.YtjcbcmloenhohabDoor
open Go.RowKit

/-! ### Bins -/
def binsP (rate ms band : Int) : Int × Int :=
  if wideI ms = 0 ∨ band < 0 ∨ (edgesN rate : Int) - 1 ≤ band then (0, 0) else (wideI ms * edgesL[band.toNat]?.getD 0, wideI ms * edgesL[band.toNat + 1]?.getD 0)

theorem binsP_none {rate ms band : Int} (h : wideI ms = 0 ∨ band < 0 ∨ (edgesN rate : Int) - 1 ≤ band) : binsP rate ms band = (0, 0) := by rw [binsP, if_pos h]

theorem edge_in (i : Nat) : 0 ≤ edgesL[i]?.getD 0 ∧ edgesL[i]?.getD 0 ≤ 60 := at_list (fun x => 0 ≤ x ∧ x ≤ 60) (by decide) edgesL (by decide) i

theorem wideI_in (ms : Int) : 0 ≤ wideI ms ∧ wideI ms ≤ 8 := by
  unfold wideI
  split
  · decide
  · split <;> decide

theorem wide_mul {a b : Int} (ha : 0 ≤ a ∧ a ≤ 8) (hb : 0 ≤ b ∧ b ≤ 60) : 0 ≤ a * b ∧ a * b ≤ 480 :=
  ⟨Int.mul_nonneg ha.1 hb.1, Int.mul_le_mul ha.2 hb.2 hb.1 (by decide)⟩

theorem bins_any (rate ms band : Int) (w : World) (he : EdgesAt w) :
    Calls Tryd.prog 9 #[.int .i64 rate, .int .i64 ms, .int .i64 band] w fun e w' => e = .returned (.tuple #[.int .i64 (binsP rate ms band).1, .int .i64 (binsP rate ms band).2]) ∧ ∃ n, w' = w.drewN n := by
  have hle := edgesN_le rate
  by_cases h1 : wideI ms = 0
  · rw [binsP_none (.inl h1)]
    have h1' : Hid (wideI ms = 0) := h1
    clear h1
    go_enter Tryd.func9, Tryd.ntmps9
    go_wp2_with (first
      | (go_at_call 20; refine (binsOfEdge_any _ _).mono ?_; rw [h1'.out]; rintro e w' ⟨rfl, rfl⟩)
      | (go_at_call 15; refine (edgesOf_any _ _).mono ?_; rintro e w' ⟨rfl, rfl⟩))
    go_ret2
    exact ⟨rfl, 0, rfl⟩
  · by_cases h2 : band < 0
    · rw [binsP_none (.inr (.inl h2))]
      go_enter Tryd.func9, Tryd.ntmps9
      go_wp2_with (first
        | (go_at_call 20; refine (binsOfEdge_any _ _).mono ?_; rintro e w' ⟨rfl, rfl⟩)
        | (go_at_call 15; refine (edgesOf_any _ _).mono ?_; rintro e w' ⟨rfl, rfl⟩))
      go_ret2
      exact ⟨rfl, 0, rfl⟩
    · by_cases h3 : (edgesN rate : Int) - 1 ≤ band
      · rw [binsP_none (.inr (.inr h3))]
        go_enter Tryd.func9, Tryd.ntmps9
        go_wp2_with (first
          | (go_at_call 20; refine (binsOfEdge_any _ _).mono ?_; rintro e w' ⟨rfl, rfl⟩)
          | (go_at_call 15; refine (edgesOf_any _ _).mono ?_; rintro e w' ⟨rfl, rfl⟩))
        go_ret2
        exact ⟨rfl, 0, rfl⟩
      · have e : binsP rate ms band = (wideI ms * edgesL[band.toNat]?.getD 0, wideI ms * edgesL[band.toNat + 1]?.getD 0) := by
          rw [binsP, if_neg (by rintro (h | h | h) <;> omega)]
        rw [e]; clear e
        obtain ⟨k, rfl⟩ := Int.eq_ofNat_of_zero_le (show 0 ≤ band by omega)
        have hk : k + 1 < 20 := by omega
        obtain ⟨b, off, hlt, hg, hc⟩ := he
        have hc0 := hc k (by omega)
        have hc1 := hc (k + 1) hk
        have hw := wideI_in ms
        have m0 := wide_mul hw (edge_in k)
        have m1 := wide_mul hw (edge_in (k + 1))
        rw [show ((k : Int)).toNat = k from rfl]
        clear hc
        generalize edgesL[k]?.getD 0 = x at *
        generalize edgesL[k + 1]?.getD 0 = y at *
        generalize hW : wideI ms = W at *
        generalize hN : edgesN rate = N at *
        have hW' : Hid (wideI ms = W) := hW
        have hN' : Hid (edgesN rate = N) := hN
        clear hW hN
        have q1 : (W == 0) = false := beq_eq_false_iff_ne.2 h1
        have q2 : decide ((k : Int) < 0) = false := decide_eq_false h2
        have q3 : decide ((N : Int) - 1 ≤ (k : Int)) = false := decide_eq_false h3
        go_enter Tryd.func9, Tryd.ntmps9
        go_wp2_with (first
          | (go_at_call 20; refine (binsOfEdge_any _ _).mono ?_; rw [hW'.out]; rintro e w' ⟨rfl, rfl⟩)
          | (go_at_call 15; refine (edgesOf_any _ _).mono ?_; rw [hN'.out]; rintro e w' ⟨rfl, rfl⟩))
        go_quiet (fail)
        all_goals
          go_wp2
          go_ret2
          exact ⟨rfl, _, rfl⟩

theorem ms_wide (ms : Int) : (ms = 10 ∧ wideI ms = 4) ∨ (ms = 20 ∧ wideI ms = 8) ∨ (¬ ms = 10 ∧ ¬ ms = 20 ∧ wideI ms = 0) := by
  unfold wideI
  by_cases h1 : ms = 10
  · exact .inl ⟨h1, by rw [if_pos h1]⟩
  · by_cases h2 : ms = 20
    · exact .inr (.inl ⟨h2, by rw [if_neg h1, if_pos h2]⟩)
    · exact .inr (.inr ⟨h1, h2, by rw [if_neg h1, if_neg h2]⟩)

theorem ret_two {k l : IntKind} {a b c d : Int} (h : a = b) (h2 : c = d) : Ending.returned (.tuple #[.int k a, .int l c]) = .returned (.tuple #[.int k b, .int l d]) := by rw [h, h2]

theorem binsP_in {rate ms W : Int} {k : Nat} (hk : k + 1 < edgesN rate) (hw : wideI ms = W) (h : ¬ W = 0) : binsP rate ms (k : Int) = (W * edgesL[k]?.getD 0, W * edgesL[k + 1]?.getD 0) := by
  rw [binsP, if_neg (by rintro (h | h | h) <;> omega), hw]
  rfl

end Go.Proofs.YtjcbcmloenhohabDoor
