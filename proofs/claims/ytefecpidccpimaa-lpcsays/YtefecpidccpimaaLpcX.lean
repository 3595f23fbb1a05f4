/- Of any length: what both sides' calls come to, in one word each. -/
import Derived.Test.YtefecpidccpimaaLpcV
namespace Go.Proofs.Ytefecpidccpimaa
open Go.RowKit

def nfL (zs : List Int) : Nat := if 32 < zs.length then 0 else zs.length
theorem nfL_near {zs : List Int} (h : zs.length ≤ 32) : nfL zs = zs.length := if_neg (by omega)
theorem nfL_far {zs : List Int} (h : 32 < zs.length) : nfL zs = 0 := if_pos h
theorem nfL_le (zs : List Int) : nfL zs ≤ 32 := by
  unfold nfL
  split <;> omega

section
variable (a : Option Addr) (n cap : Nat) (zs : List Int) (w : World)

theorem u_stable (hz : Zs w a n zs) : Calls Try.prog 11 #[.slice a n cap] w fun e w' => e = .returned (.bool (stableZ zs)) ∧ Below w.heap.size w w' := by
  have hl := hz.len
  rcases Nat.lt_or_ge 32 n with h | h
  · refine (cstable_far a n cap w h).mono ?_
    rintro e w' ⟨rfl, hw⟩
    rw [stableZ_far (by omega), hw]
    exact ⟨rfl, Below.refl _ _⟩
  · exact cstable_any a n cap zs w hz h
theorem u_rstable (hz : Zs w a n zs) : Calls Try.prog 17 #[.slice a n cap] w fun e w' => e = .returned (.bool (stableZ zs)) ∧ Below w.heap.size w w' := by
  have hl := hz.len
  rcases Nat.lt_or_ge 32 n with h | h
  · refine (rstable_far a n cap w h).mono ?_
    rintro e w' ⟨rfl, hw⟩
    rw [stableZ_far (by omega), hw]
    exact ⟨rfl, Below.refl _ _⟩
  · exact rstable_any a n cap zs w hz h
theorem u_fit (hz : Zs w a n zs) : Calls Try.prog 12 #[.slice a n cap] w fun e w' => ∃ a' c', e = .returned (.slice a' (nfL zs) c') ∧ Zs w' a' (nfL zs) (fitZ zs) ∧ Below w.heap.size w w' := by
  have hl := hz.len
  rcases Nat.lt_or_ge 32 n with h | h
  · refine (cfit_far a n cap w h).mono ?_
    rintro e w' ⟨rfl, hw⟩
    rw [fitZ_far (by omega), nfL_far (by omega), hw]
    exact ⟨none, 0, rfl, Zs.nil _ _, Below.refl _ _⟩
  · refine (cfit_any a n cap zs w hz h).mono ?_
    rw [nfL_near (by omega), hl]
    rintro e w' ⟨a', rfl, hn, hb⟩
    exact ⟨a', n, rfl, Zs.of_new hn (by rw [fitZ_len (by omega), hl]), hb⟩
theorem u_rfit (hz : Zs w a n zs) : Calls Try.prog 18 #[.slice a n cap] w fun e w' => ∃ a' c', e = .returned (.slice a' (nfL zs) c') ∧ Zs w' a' (nfL zs) (fitZ zs) ∧ Below w.heap.size w w' := by
  have hl := hz.len
  rcases Nat.lt_or_ge 32 n with h | h
  · refine (rfit_far a n cap w h).mono ?_
    rintro e w' ⟨rfl, hw⟩
    rw [fitZ_far (by omega), nfL_far (by omega), hw]
    exact ⟨none, 0, rfl, Zs.nil _ _, Below.refl _ _⟩
  · refine (rfit_any a n cap zs w hz h).mono ?_
    rw [nfL_near (by omega), hl]
    rintro e w' ⟨a', c', rfl, hn, hb⟩
    exact ⟨a', c', rfl, Zs.of_new hn (by rw [fitZ_len (by omega), hl]), hb⟩
theorem u_chirp (hz : Zs w a n zs) (c : Int) : Calls Try.prog 13 #[.slice a n cap, .int .i64 c] w fun e w' => ∃ a' c', e = .returned (.slice a' (nfL zs) c') ∧ Zs w' a' (nfL zs) (chirpZ zs c) ∧ Below w.heap.size w w' := by
  have hl := hz.len
  rcases Nat.lt_or_ge 32 n with h | h
  · refine (chirp_far a n cap c w h).mono ?_
    rintro e w' ⟨rfl, hw⟩
    rw [show chirpZ zs c = [] from if_pos (by omega), nfL_far (by omega), hw]
    exact ⟨none, 0, rfl, Zs.nil _ _, Below.refl _ _⟩
  · refine (chirp_any a n cap zs c w hz h).mono ?_
    rw [nfL_near (by omega), hl, show chirpZ zs c = chirpL zs c from if_neg (by omega)]
    rintro e w' ⟨a', rfl, hn, hb⟩
    exact ⟨a', n, rfl, Zs.of_new hn (by rw [chirpL_len, hl]), hb⟩
theorem u_rchirp (hz : Zs w a n zs) (c : Int) : Calls Try.prog 19 #[.slice a n cap, .int .i64 c] w fun e w' => ∃ a' c', e = .returned (.slice a' (nfL zs) c') ∧ Zs w' a' (nfL zs) (chirpZ zs c) ∧ Below w.heap.size w w' := by
  have hl := hz.len
  rcases Nat.lt_or_ge 32 n with h | h
  · refine (rchirp_far a n cap c w h).mono ?_
    rintro e w' ⟨rfl, hw⟩
    rw [show chirpZ zs c = [] from if_pos (by omega), nfL_far (by omega), hw]
    exact ⟨none, 0, rfl, Zs.nil _ _, Below.refl _ _⟩
  · refine (rchirp_any a n cap zs c w hz h).mono ?_
    rw [nfL_near (by omega), hl, show chirpZ zs c = chirpL zs c from if_neg (by omega)]
    rintro e w' ⟨a', c', rfl, hn, hb⟩
    exact ⟨a', c', rfl, Zs.of_new hn (by rw [chirpL_len, hl]), hb⟩
theorem u_gain (hz : Zs w a n zs) : Calls Try.prog 14 #[.slice a n cap] w fun e w' => e = .returned (.int .i64 (gainZ zs)) ∧ Below w.heap.size w w' := by
  have hl := hz.len
  rcases Nat.lt_or_ge 32 n with h | h
  · refine (gain_far a n cap w h).mono ?_
    rintro e w' ⟨rfl, hw⟩
    rw [show gainZ zs = 0 from if_pos (by omega), hw]
    exact ⟨rfl, Below.refl _ _⟩
  · rw [show gainZ zs = sqrtI (sqL zs n) by rw [← hl]; exact if_neg (by omega)]
    exact gain_any a n cap zs w hz h
theorem u_rgain (hz : Zs w a n zs) : Calls Try.prog 20 #[.slice a n cap] w fun e w' => e = .returned (.int .i64 (gainZ zs)) ∧ Below w.heap.size w w' := by
  have hl := hz.len
  rcases Nat.lt_or_ge 32 n with h | h
  · refine (rgain_far a n cap w h).mono ?_
    rintro e w' ⟨rfl, hw⟩
    rw [show gainZ zs = 0 from if_pos (by omega), hw]
    exact ⟨rfl, Below.refl _ _⟩
  · rw [show gainZ zs = sqrtI (sqL zs n) by rw [← hl]; exact if_neg (by omega)]
    exact rgain_any a n cap zs w hz h
end

end Go.Proofs.Ytefecpidccpimaa
