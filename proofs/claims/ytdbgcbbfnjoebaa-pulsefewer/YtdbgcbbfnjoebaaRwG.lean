/- The program's writer: numbers that are mostly small, how much was written; a writer is made. -/
import Derived.Test.YtdbgcbbfnjoebaaRwF
namespace Go.Proofs.Ytdbgcbbfnjoebaa
open Go.RowKit

/-- What writing a number that is mostly small does. -/
def lapEs (fs decay : Nat) (v : Int) (s : Es) : Es := takeE s (lapFl fs decay (lapW fs decay v)) (lapFh fs decay (lapW fs decay v)) 32768

/-! ### How much was written -/
def tellS (s : Es) : Int := (s.cnt : Int) - (lenN s.rng : Int)

theorem tellS_is {e : Sp} {R V : Nat} {s : Es} (h : Wrote e R V s) : tellS s = tellE e R := by
  unfold tellS tellE
  rw [h.cnt, h.rng]
  omega

theorem tellE_any (S : Nat → Prop) (p : Nat) (s : Es) (w : World) (h : Wd S p s w) (h1 : 8388608 < s.rng) (h2 : s.rng ≤ 2147483648) (hc : s.cnt ≤ 2000000000000000) :
    Calls Try.prog 15 #[.pointer (some ⟨p, 0, none⟩)] w fun e w' => e = .returned (.int .i64 (tellS s)) ∧ ∃ k, w' = w.drewN k := by
  obtain ⟨_, q2, _, _, q6, _⟩ := h.fields
  have i3 := lenN_in h1 h2
  have HT : Hid ((s.cnt : Int) - (lenN s.rng : Int) = tellS s) := rfl
  clear h
  go_enter Try.func15, Try.ntmps15
  go_wp2
  go_quiet (first | (go_at_call 32; exact Calls.quiet_of_same (len_nat_any _ _ (by omega))))
  go_wp2
  go_ret
  exact ⟨ret_int (by rw [← HT.out]), _, rfl⟩

/-! ### A writer is made -/
theorem Wd.made (w : World) : Wd (fun k => k = w.heap.size) w.heap.size initE (w.alloc (.cells #[.slice none 0 0, .int .i64 0, .int .i64 2147483648, .slice none 0 0, .int .i64 0, .int .i64 0, .int .i64 33] 52)) := by
  refine ⟨.slice none 0 0, .slice none 0 0, World.rowIs_alloc w _ _ _ (lt7 rfl rfl rfl rfl rfl rfl rfl), rfl, fun k hk => by rw [hk]; simp, ⟨⟨rfl, .inl ⟨rfl, rfl⟩⟩, fun k hk => by cases hk⟩, ⟨⟨rfl, .inl ⟨rfl, rfl⟩⟩, fun k hk => by cases hk⟩, fun k hk => by cases hk⟩

theorem newE_any (w : World) :
    Calls Try.prog 12 #[] w fun e w' => ∃ p S, e = .returned (.pointer (some ⟨p, 0, none⟩)) ∧ Wd S p initE w' ∧ (∀ k, S k → w.heap.size ≤ k) ∧ Below w.heap.size w w' := by
  have HM : Hid (Wd (fun k => k = w.heap.size) w.heap.size initE (w.alloc (.cells #[.slice none 0 0, .int .i64 0, .int .i64 2147483648, .slice none 0 0, .int .i64 0, .int .i64 0, .int .i64 33] 52))) := Wd.made w
  go_enter Try.func12, Try.ntmps12
  go_wp2
  go_ret
  exact ⟨w.heap.size, _, rfl, HM.out, fun k hk => by rw [hk]; exact Nat.le_refl _, (Below.refl _ _).alloc (Nat.le_refl _) _⟩

theorem ending_any (S : Nat → Prop) (p : Nat) (s : Es) (w : World) (h : Wd S p s w) (h1 : 8388608 < s.rng) (h2 : s.rng ≤ 2147483648) (h3 : s.low ≤ 4294967296) :
    Calls Try.prog 44 #[.pointer (some ⟨p, 0, none⟩)] w fun e w' => e = .returned (.tuple #[.int .i64 (endE s), .int .i64 (openE s)]) ∧ ∃ k, w' = w.drewN k := by
  obtain ⟨q1, q2, _, _, _, _⟩ := h.fields
  have i3 := openE_in h1 h2
  have i4 := lenN_in h1 h2
  have HL : Hid ((lenN s.rng : Int) = (openE s : Int) + 2) := by show _ = _; unfold openE; omega
  obtain ⟨m, hm⟩ : ∃ m, openE s = m := ⟨_, rfl⟩
  have hp1 : 2 ^ m ≤ 2 ^ 30 := Nat.pow_le_pow_right (by decide) (by omega)
  have hp0 := Nat.two_pow_pos m
  have h30 : 2 ^ 30 = 1073741824 := by decide
  have hpI : 1 ≤ (2 : Int) ^ m ∧ (2 : Int) ^ m ≤ 1073741824 := by rw [← pow_cast]; omega
  have e1 : ((s.low : Int) + 2 ^ m - 1) / 2 ^ m = (((s.low + 2 ^ m - 1) / 2 ^ m : Nat) : Int) := by
    rw [Int.natCast_ediv, Int.ofNat_sub (by omega), Int.natCast_add, pow_cast]; rfl
  have e2 : ((s.low : Int) + 2 ^ m - 1) / 2 ^ m * 2 ^ m = ((endE s : Nat) : Int) := by
    rw [e1, ← pow_cast, ← Int.natCast_mul]
    unfold endE firstE
    rw [hm]
  have E2 : Hid (((s.low : Int) + 2 ^ m - 1) / 2 ^ m * 2 ^ m = ((endE s : Nat) : Int)) := e2
  have b0 : endE s ≤ 6442450944 := by
    have h5 := (endE_in h1 h2).2
    have h6 := Nat.two_pow_pos (openE s)
    omega
  have b1 : 0 ≤ ((s.low : Int) + 2 ^ m - 1) / 2 ^ m := by rw [e1]; exact Int.natCast_nonneg _
  have b2 : ((s.low : Int) + 2 ^ m - 1) / 2 ^ m ≤ 8589934592 := Int.le_trans (Int.ediv_le_self _ (by omega)) (by omega)
  have b3 : 0 ≤ ((s.low : Int) + 2 ^ m - 1) / 2 ^ m * 2 ^ m := by rw [e2]; exact Int.natCast_nonneg _
  have b4 : ((s.low : Int) + 2 ^ m - 1) / 2 ^ m * 2 ^ m ≤ 8589934592 := by rw [e2]; omega
  rw [hm] at HL i3 ⊢
  clear h e1 e2 b0 hp1 hp0 h30 hm
  go_enter Try.func44, Try.ntmps44
  go_wp2_with (go_at_call 32; refine (len_nat_any _ _ (by omega)).mono ?_; rw [HL.out]; rintro e w' ⟨rfl, rfl⟩)
  go_quiet (fail)
  go_wp2
  go_ret2
  exact ⟨by rw [← E2.out]; rfl, _, rfl⟩

end Go.Proofs.Ytdbgcbbfnjoebaa
