/- The program's writer: numbers that are mostly small. -/
import Derived.Test.YtdbgcbbfnjoebaaRwE
import Derived.Test.YtdbgcbbfnjoebaaRcE
namespace Go.Proofs.Ytdbgcbbfnjoebaa
open Go.RowKit

/-- What the search for a number's part tells. -/
def LapTold (fs decay : Nat) (v : Int) (e : Ending) : Prop :=
  ∃ l s : Nat, e = .returned (.tuple #[.int .i64 (lapW fs decay v), .int .i64 l, .int .i64 s]) ∧ l = lapFl fs decay (lapW fs decay v) ∧ l + s = lapFh fs decay (lapW fs decay v) ∧ l + s ≤ 32768 ∧ 1 ≤ s

theorem lapTold_zero {fs decay : Nat} (h1 : 256 ≤ fs) (h2 : fs ≤ 28000) : LapTold fs decay 0 (.returned (.tuple #[.int .i64 0, .int .i64 0, .int .i64 fs])) := by
  have e : lapW fs decay 0 = 0 := by
    unfold lapW sgN
    rw [decide_eq_false (by decide)]
    show sg false (nearN fs decay false 0) = 0
    exact sg_zero false
  refine ⟨0, fs, by rw [e]; rfl, ?_, ?_, by omega, by omega⟩
  · rw [e]; unfold lapFl; rw [if_pos rfl]
  · rw [e]; unfold lapFh; rw [if_pos rfl]; omega

theorem lapTold_end {fs decay k z l x : Nat} {v : Int} (h1 : 256 ≤ fs) (h2 : fs ≤ 28000) (h3 : decay ≤ 16000) (hk : 1 ≤ k) (hkz : k ≤ z) (hza : z ≤ v.natAbs) (hz : z = v.natAbs ∨ 32768 ≤ z) (hall : ∀ j, j < k - 1 → 1 < lapSz fs decay j) (hend : lapSz fs decay (k - 1) = 1 ∨ k = z)
    (hl : l = lapLo fs decay (k - 1) + (if sgN v then 0 else lapSz fs decay (k - 1))) (hx : x = min (z - k) ((32767 - l) / 2)) {a b c : Int} (ha : a = sg (sgN v) (k + x)) (hb : b = (l + 2 * x : Nat)) (hc : c = lapSz fs decay (k - 1)) :
    LapTold fs decay v (.returned (.tuple #[.int .i64 a, .int .i64 b, .int .i64 c])) := by
  obtain ⟨g1, g2, g3, g4⟩ := lap_ended h1 h2 h3 (sgN v) hk hkz hza hz hall hend hl hx
  have e : lapW fs decay v = sg (sgN v) (k + x) := by unfold lapW; rw [g1]
  subst ha hb hc
  refine ⟨l + 2 * x, lapSz fs decay (k - 1), by rw [e], by rw [e, g2], by rw [e, g3], g4, lapSz_pos _ _ _⟩

theorem lapSz_le {fs decay : Nat} (hd : decay ≤ 16000) : ∀ i, lapSz fs decay i ≤ 20000
  | 0 => by
    rw [lapSz_zero]
    have := mul_dec (32736 - fs) (16384 - decay) (by omega)
    omega
  | i + 1 => by
    rw [lapSz_succ]
    have h := lapSz_le (fs := fs) hd i
    have := mul_dec (2 * lapSz fs decay i - 2) decay (by omega)
    omega

end Go.Proofs.Ytdbgcbbfnjoebaa
