/- Configs as the document's own calls answer them; two configs compared. -/
import Derived.Test.YtgiellpepnbpcaaDoorTocT
namespace Go.Proofs.YtgiellpepnbpcaaDoor
open Go.RowKit

theorem rmode_any (n : Nat) (hn : n < 12) (w : World) : Calls Tryd.prog 19 #[.int .i64 (n : Nat)] w fun e w' => e = .returned (.int .i64 (modeN n : Nat)) ∧ w' = w := by
  by_cases h4 : n < 4
  · have HE : Hid (modeN n = 0) := if_pos h4
    have b1 : ((n : Int) < 4) = True := eq_true (by omega)
    clear hn h4
    go_enter Tryd.func19, Tryd.ntmps19
    go_wp2
    go_ret
    exact ⟨by rw [HE.out]; rfl, rfl⟩
  · have b1 : ((n : Int) < 4) = False := eq_false (by omega)
    by_cases h6 : n < 6
    · have HE : Hid (modeN n = 1) := by show _ = _; unfold modeN; rw [if_neg h4, if_pos h6]
      have b2 : ((n : Int) < 6) = True := eq_true (by omega)
      clear hn h4 h6
      go_enter Tryd.func19, Tryd.ntmps19
      go_wp2
      go_ret
      exact ⟨by rw [HE.out]; rfl, rfl⟩
    · have HE : Hid (modeN n = 2) := by show _ = _; unfold modeN; rw [if_neg h4, if_neg h6]
      have b2 : ((n : Int) < 6) = False := eq_false (by omega)
      clear hn h4 h6
      go_enter Tryd.func19, Tryd.ntmps19
      go_wp2
      go_ret
      exact ⟨by rw [HE.out]; rfl, rfl⟩

theorem rms_any (n : Nat) (hn : n < 12) (w : World) : Calls Tryd.prog 21 #[.int .i64 (n : Nat)] w fun e w' => e = .returned (.int .i64 (msN n : Nat)) ∧ w' = w := by
  have HE : Hid (10 + 10 * ((n : Int) % 2) = (msN n : Nat)) := by show _ = _; unfold msN; omega
  have hn2 : n ≤ 11 := by omega
  have b0 : (0 : Int) ≤ n := by omega
  clear hn
  go_enter Tryd.func21, Tryd.ntmps21
  go_wp2
  go_ret
  exact ⟨by rw [← HE.out]; rfl, rfl⟩

def rateArr : Array Value := #[.int .i64 8000, .int .i64 8000, .int .i64 16000, .int .i64 16000, .int .i64 24000, .int .i64 24000, .int .i64 8000, .int .i64 8000, .int .i64 16000, .int .i64 16000, .int .i64 24000, .int .i64 24000]
theorem rate_at : ∀ n : Nat, n < 12 → rateArr[n]? = some (.int .i64 (rateN n))
  | 0, _ | 1, _ | 2, _ | 3, _ | 4, _ | 5, _ | 6, _ | 7, _ | 8, _ | 9, _ | 10, _ | 11, _ => rfl
  | n + 12, h => absurd h (by omega)

theorem rrate_any (n : Nat) (hn : n < 12) (w : World) : Calls Tryd.prog 20 #[.int .i64 (n : Nat)] w fun e w' => e = .returned (.int .i64 (rateN n : Nat)) ∧ Below w.heap.size w w' := by
  have hc : (w.alloc (.cells #[.int .i64 8000, .int .i64 8000, .int .i64 16000, .int .i64 16000, .int .i64 24000, .int .i64 24000, .int .i64 8000, .int .i64 8000, .int .i64 16000, .int .i64 16000, .int .i64 24000, .int .i64 24000] 3)).cell? ⟨w.heap.size, n, none⟩ = some (.int .i64 (rateN n)) := by
    rw [World.cell?_alloc_new]
    exact rate_at n hn
  have b0 : (0 : Int) ≤ n := by omega
  have b1 : ((n : Int) < 12) = True := eq_true (by omega)
  clear hn
  go_enter Tryd.func20, Tryd.ntmps20
  go_wp2
  go_ret
  exact ⟨rfl, (Below.refl _ _).alloc (Nat.le_refl _) _⟩

theorem eql_cfg (W : World) (x y z a b c : Int) : (binOp .eql 31 (.agg #[.int .i64 x, .int .i64 y, .int .i64 z]) (.agg #[.int .i64 a, .int .i64 b, .int .i64 c])).run Tryd.prog W = .ok (.bool (decide (x = a ∧ y = b ∧ z = c))) W := by
  by_cases h1 : x = a <;> by_cases h2 : y = b <;> by_cases h3 : z = c <;> simp [go_sem, h1, h2, h3]

end Go.Proofs.YtgiellpepnbpcaaDoor
