/- What every law of layer 7 begins with: a few filters answer as told. -/
import Derived.Test.YtefecpidccpimaaLpcI
import Derived.Test.YtefecpidccpimaaTabsE
namespace Go.Proofs.Ytefecpidccpimaa
open Go.RowKit

theorem lsfz_ten (w : World) : Calls Try.prog 22 #[.int .i64 10, .int .i64 0] w fun e w' => ∃ a cap, e = .returned (.slice a 10 cap) ∧ Zs w' a 10 (lsfL 10 0) ∧ Below w.heap.size w w' := by
  have hl : (lsfL 10 0).length = 10 := by decide
  refine (rlsf_any 10 0 w).mono ?_
  rw [hl]
  rintro e w' ⟨a, c, rfl, hn, hb⟩
  exact ⟨a, c, rfl, Zs.of_new hn hl, hb⟩
theorem chirp_4096 : chirpL [4096] 32768 = [2048] := by decide
theorem one_lit (w : World) (v : Int) : Zs (w.alloc (.cells #[.int .i64 v] 2)) (some ⟨w.heap.size, 0, none⟩) 1 [v] := zs_lit w [v] rfl rfl rfl
theorem one_below (w : World) (v : Int) : Below w.heap.size w (w.alloc (.cells #[.int .i64 v] 2)) := (Below.refl _ _).alloc (Nat.le_refl _) _
theorem chirp_lit (w : World) : Calls Try.prog 13 #[.slice (some ⟨w.heap.size, 0, none⟩) 1 1, .int .i64 32768] (w.alloc (.cells #[.int .i64 4096] 2)) fun e w' => ∃ b, e = .returned (.slice (some ⟨b, 0, none⟩) 1 1) ∧ w'.cell? ⟨b, 0, none⟩ = some (.int .i64 2048) ∧ b < w'.heap.size ∧ Below w.heap.size w w' := by
  refine (chirp_any _ 1 1 [4096] 32768 _ (one_lit w 4096) (by decide)).mono ?_
  rw [chirp_4096]
  rintro e w' ⟨a, rfl, hn, hb⟩
  obtain ⟨b, rfl, h1, h2⟩ := hn.some_of (by decide)
  exact ⟨b, rfl, hn.cellAt (i := 0) (by decide), h2, (one_below w 4096).trans (hb.mono (one_below w 4096).size)⟩
theorem stable_lit (w : World) (v : Int) : Calls Try.prog 11 #[.slice (some ⟨w.heap.size, 0, none⟩) 1 1] (w.alloc (.cells #[.int .i64 v] 2)) fun e w' => e = .returned (.bool (decide (-4091 ≤ v ∧ v ≤ 4091))) ∧ Below w.heap.size w w' := by
  refine (cstable_any _ 1 1 [v] _ (one_lit w v) (by decide)).mono ?_
  rintro e w' ⟨rfl, hb⟩
  rw [stable_one]
  exact ⟨rfl, (one_below w v).trans (hb.mono (one_below w v).size)⟩
theorem fit_lit (w : World) (v : Int) : Calls Try.prog 12 #[.slice (some ⟨w.heap.size, 0, none⟩) 1 1] (w.alloc (.cells #[.int .i64 v] 2)) fun e w' => ∃ b, e = .returned (.slice (some ⟨b, 0, none⟩) 1 1) ∧ NewRow 2 w.heap.size w' (some ⟨b, 0, none⟩) (fitZ [v]) ∧ Below w.heap.size w w' := by
  refine (cfit_any _ 1 1 [v] _ (one_lit w v) (by decide)).mono ?_
  rintro e w' ⟨a, rfl, hn, hb⟩
  have hl : (fitZ [v]).length = 1 := fitZ_len (by simp)
  obtain ⟨b, rfl, h1, h2⟩ := hn.some_of (by omega)
  exact ⟨b, rfl, hn.mono (one_below w v).size, (one_below w v).trans (hb.mono (one_below w v).size)⟩
theorem gain_nil (w : World) : Calls Try.prog 14 #[.slice none 0 0] w fun e w' => e = .returned (.int .i64 4096) ∧ Below w.heap.size w w' := by
  refine (gain_any none 0 0 [] w (Zs.nil _ _) (by decide)).mono ?_
  have e : sqrtI (sqL [] 0) = 4096 := (sqrtI_unique (a := 16777216) (r := 4096) (by decide) (by decide) (by decide) (by decide)).symm
  rw [e]
  exact fun _ _ h => h
theorem from_ten (a : Option Addr) (cap : Nat) (w : World) (hz : Zs w a 10 (lsfL 10 0)) : Calls Try.prog 10 #[.slice a 10 cap] w fun e w' => ∃ a', e = .returned (.tuple #[.slice a' 10 10, .int .i64 0]) ∧ Below w.heap.size w w' := by
  refine (cfrom_any a 10 cap 5 _ w hz (.inl ⟨rfl, rfl⟩)).mono ?_
  rintro e w' ⟨a', rfl, _, hb⟩
  exact ⟨a', rfl, hb⟩

set_option maxHeartbeats 2000000 in
theorem awake_any (w : World) :
    Calls Try.prog 9 #[] w fun e w' => e = .returned (.bool true) ∧ Below w.heap.size w w' := by
  have y1 : Hid True := trivial
  go_enter Try.func9, Try.ntmps9
  go_wp2_with (first
    | (go_at_call 22; go_loud (refine (lsfz_ten _).mono ?_; rintro e w1 ⟨a1, c1, rfl, hz1, hb1⟩))
    | (go_at_call 10; go_loud (refine (from_ten _ _ _ hz1).mono ?_; rintro e w2 ⟨a2, rfl, hb2⟩; have hB2 := hb1.trans (hb2.mono hb1.size); clear hz1 hb1 hb2))
    | (go_at_call 13; go_loud (refine (chirp_lit _).mono ?_; rintro e w3 ⟨b3, rfl, hc3, hl3, hb3⟩; have hB3 := hB2.trans (hb3.mono hB2.size); clear hB2 hb3))
    | (go_at_call 11; clear y1; go_loud (refine (stable_lit _ 4096).mono ?_; rintro e w4 ⟨rfl, hb4⟩; have hc4 := (hb4.cell (p := ⟨b3, 0, none⟩) hl3).trans hc3; have hl4 := Nat.lt_of_lt_of_le hl3 hb4.size; have hB4 := hB3.trans (hb4.mono hB3.size); clear hc3 hl3 hB3 hb4))
    | (go_at_call 11; go_loud (refine (stable_lit _ 4000).mono ?_; rintro e w5 ⟨rfl, hb5⟩; have hc5 := (hb5.cell (p := ⟨b3, 0, none⟩) hl4).trans hc4; have hl5 := Nat.lt_of_lt_of_le hl4 hb5.size; have hB5 := hB4.trans (hb5.mono hB4.size); clear hc4 hl4 hB4 hb5))
    | (go_at_call 12; go_loud (refine (fit_lit _ 5000).mono ?_; rintro e w6 ⟨b6, rfl, _, hb6⟩; have hB6 := hB5.trans (hb6.mono hB5.size); clear hB5 hb6))
    | (go_at_call 14; go_loud (refine (gain_nil _).mono ?_; rintro e w7 ⟨rfl, hb7⟩; have hB7 := hB6.trans (hb7.mono hB6.size))))
  go_ret
  exact ⟨rfl, hB7⟩

end Go.Proofs.Ytefecpidccpimaa
