/- The program's writer: numbers below another, numbers that are mostly small. -/
import Derived.Test.YtdbgcbbfnjoebaaRwD
import Derived.Test.YtdbgcbbfnjoebaaMB
namespace Go.Proofs.Ytdbgcbbfnjoebaa
open Go.RowKit

/-- What writing a number below another does. -/
def uintEs (v n : Nat) (s : Es) : Es :=
  if n ≤ 256 then takeE s v (v + 1) n else bitsE (v % 2 ^ shiftN n) (shiftN n) (takeE s (v / 2 ^ shiftN n) (v / 2 ^ shiftN n + 1) (partN n))

theorem onE_cnt : ∀ (n : Nat) (s : Es), (onE n s).cnt ≤ s.cnt + 8 * n
  | 0, _ => Nat.le_refl _
  | n + 1, s => by
    unfold onE
    split
    · have := onE_cnt n (stepE s)
      have e : (stepE s).cnt = s.cnt + 8 := rfl
      omega
    · omega

theorem takeE_cnt (s : Es) (fl fh ft : Nat) : (takeE s fl fh ft).cnt ≤ s.cnt + 24 := onE_cnt 3 (narrowEs s fl fh ft)
theorem takeFlagE_cnt (v : Bool) (n : Nat) (s : Es) : (takeFlagE v n s).cnt ≤ s.cnt + 24 := onE_cnt 3 (flagEs v n s)
theorem bitsE_cnt (v n : Nat) (s : Es) : (bitsE v n s).cnt = s.cnt + n := (flushE_same 3 (addE v n s)).2.1

theorem uintE_bad (S : Nat → Prop) (p : Nat) (s : Es) (v ft : Int) (w : World) (h : Wd S p s w) (hn : ¬ (1 ≤ ft ∧ ft ≤ 4294967295 ∧ 0 ≤ v ∧ v < ft)) :
    Calls Try.prog 72 #[.pointer (some ⟨p, 0, none⟩), .int .i64 v, .int .i64 ft] w fun e w' => e = .returned (.int .i64 1) ∧ ∃ S', Wd S' p s w' ∧ Went S w S' w' := by
  have HH : Hid (Wd S p s w) := h
  clear h
  by_cases h1 : ft < 1
  · clear hn
    go_enter Try.func72, Try.ntmps72
    go_wp2
    go_ret
    exact ⟨rfl, S, HH.out, Went.refl _ _⟩
  · by_cases h2 : 4294967295 < ft
    · clear hn
      go_enter Try.func72, Try.ntmps72
      go_wp2
      go_ret
      exact ⟨rfl, S, HH.out, Went.refl _ _⟩
    · by_cases h3 : v < 0
      · clear hn
        go_enter Try.func72, Try.ntmps72
        go_wp2
        go_ret
        exact ⟨rfl, S, HH.out, Went.refl _ _⟩
      · have h4 : ft ≤ v := by omega
        clear hn
        go_enter Try.func72, Try.ntmps72
        go_wp2
        go_ret
        exact ⟨rfl, S, HH.out, Went.refl _ _⟩

set_option maxRecDepth 100000 in
set_option maxHeartbeats 1600000 in
theorem uintE_any (S : Nat → Prop) (p : Nat) (s : Es) (v ft : Nat) (w : World) (h : Wd S p s w) (hi : InvE s) (h1 : v < ft) (h2 : ft ≤ 4294967295) (hc : s.cnt ≤ 100000000000000) :
    Calls Try.prog 72 #[.pointer (some ⟨p, 0, none⟩), .int .i64 v, .int .i64 ft] w fun e w' => e = .returned (.int .i64 0) ∧ ∃ S', Wd S' p (uintEs v ft s) w' ∧ Went S w S' w' := by
  have HH : Hid (Wd S p s w) := h
  have HI : Hid (InvE s) := hi
  clear h hi
  by_cases h3 : ft ≤ 256
  · have e : uintEs v ft s = takeE s v (v + 1) ft := if_pos h3
    rw [e]
    have h3I : (ft : Int) ≤ 256 := by omega
    clear e
    go_enter Try.func72, Try.ntmps72
    go_wp2_with (go_at_call 71; refine (takeE_any S p s _ _ _ v (v + 1) ft rfl ?_ rfl _ HH.out HI.out (Nat.lt_succ_self v) h1 (by omega) (by omega)).mono ?_; (· simp); rintro e w' ⟨rfl, S2, hw1, hw2⟩)
    go_ret
    exact ⟨rfl, S2, hw1, hw2⟩
  · obtain ⟨s1, s2, s3, s4⟩ := shift_in (ft := ft) (by omega) h2
    have hpart := part_of (ft := ft) (v := v) (by omega) h1
    have e : uintEs v ft s = bitsE (v % 2 ^ shiftN ft) (shiftN ft) (takeE s (v / 2 ^ shiftN ft) (v / 2 ^ shiftN ft + 1) (partN ft)) := if_neg h3
    rw [e]
    have T1 : Hid (InvE (takeE s (v / 2 ^ shiftN ft) (v / 2 ^ shiftN ft + 1) (partN ft))) := takeE_inv HI.out (Nat.lt_succ_self _) hpart (by omega)
    have T2 : Hid ((takeE s (v / 2 ^ shiftN ft) (v / 2 ^ shiftN ft + 1) (partN ft)).cnt ≤ 1000000000000000) := by have := takeE_cnt s (v / 2 ^ shiftN ft) (v / 2 ^ shiftN ft + 1) (partN ft); show _ ≤ _; omega
    have hl : lenN (ft - 1) = shiftN ft + 8 := by
      have h3 : ¬ ft - 1 = 0 := by omega
      have : 9 ≤ lenN (ft - 1) := by
        have h5 := lenN_mono (show 256 ≤ ft - 1 by omega)
        have h6 : lenN 256 = 9 := by decide
        omega
      unfold shiftN
      omega
    have HL : Hid ((lenN (ft - 1) : Int) = (shiftN ft : Int) + 8) := by show _ = _; omega
    have hb : v % 2 ^ shiftN ft < 2 ^ shiftN ft := Nat.mod_lt _ (Nat.two_pow_pos _)
    have HB : Hid (v % 2 ^ shiftN ft < 2 ^ shiftN ft) := hb
    have HPt : Hid (v / 2 ^ shiftN ft < partN ft) := hpart
    have hp := two_pow_24 (shiftN ft) s2
    have c1 : (v : Int) / 2 ^ shiftN ft = ((v / 2 ^ shiftN ft : Nat) : Int) := by rw [Int.natCast_ediv, pow_cast]
    have c2 : ((ft : Int) - 1) / 2 ^ shiftN ft + 1 = ((partN ft : Nat) : Int) := by
      unfold partN
      rw [Int.natCast_add, Int.natCast_ediv, pow_cast, Int.ofNat_sub (by omega)]; rfl
    have c3 : (v : Int) - (v : Int) / 2 ^ shiftN ft * 2 ^ shiftN ft = ((v % 2 ^ shiftN ft : Nat) : Int) := by
      rw [c1, ← pow_cast, ← Int.natCast_mul]
      have h5 := Nat.div_add_mod v (2 ^ shiftN ft)
      rw [Nat.mul_comm] at h5
      generalize v / 2 ^ shiftN ft * 2 ^ shiftN ft = q at *
      omega
    have b1 : 0 ≤ (v : Int) / 2 ^ shiftN ft := by rw [c1]; exact Int.natCast_nonneg _
    have b2 : (v : Int) / 2 ^ shiftN ft ≤ 256 := by rw [c1]; omega
    have b3 : 0 ≤ ((ft : Int) - 1) / 2 ^ shiftN ft := by omega
    have b4 : ((ft : Int) - 1) / 2 ^ shiftN ft ≤ 256 := by omega
    have b5 : 0 ≤ (v : Int) / 2 ^ shiftN ft * 2 ^ shiftN ft := Int.mul_nonneg b1 (by omega)
    have b6 : (v : Int) / 2 ^ shiftN ft * 2 ^ shiftN ft ≤ v := by omega
    have C1 : Hid ((v : Int) / 2 ^ shiftN ft = ((v / 2 ^ shiftN ft : Nat) : Int)) := c1
    have C2 : Hid (((ft : Int) - 1) / 2 ^ shiftN ft + 1 = ((partN ft : Nat) : Int)) := c2
    have C3 : Hid ((v : Int) - (v : Int) / 2 ^ shiftN ft * 2 ^ shiftN ft = ((v % 2 ^ shiftN ft : Nat) : Int)) := c3
    have h3I : ((ft : Int) ≤ 256) = False := eq_false (by omega)
    have s1I : (1 : Int) ≤ (shiftN ft : Int) := by omega
    have s2I : (shiftN ft : Int) ≤ 24 := by omega
    have S4 : Hid (partN ft ≤ 256) := s4
    have HV1 : Hid (∀ z : Int, z = ((v / 2 ^ shiftN ft : Nat) : Int) + 1 → z = ((v / 2 ^ shiftN ft + 1 : Nat) : Int)) := fun z hz => by rw [hz]; simp
    clear hb hpart c1 c2 c3 hl e s3 s4
    go_enter Try.func72, Try.ntmps72
    go_wp2_with (first
      | (go_at_call 32; refine (len_int_any (ft - 1) _ ?_ _ (by omega)).mono ?_; (· omega); rw [HL.out]; rintro e w' ⟨rfl, rfl⟩)
      | (go_at_call 71; go_loud (refine (takeE_any S p s _ _ _ (v / 2 ^ shiftN ft) (v / 2 ^ shiftN ft + 1) (partN ft) C1.out (HV1.out _ (by rw [C1.out])) C2.out _ HH.out HI.out (Nat.lt_succ_self _) HPt.out (by have := S4.out; omega) (by omega)).mono ?_; rintro e w' ⟨rfl, S2, hw1, hw2⟩))
      | (go_at_call 55; go_loud (rw [C3.out]; refine (bitsE_any S2 p _ _ _ _ hw1 T1.out s2 HB.out T2.out).mono ?_; rintro e w2 ⟨rfl, S3, hw3, hw4⟩)))
    go_ret
    exact ⟨rfl, S3, hw3, hw2.trans hw4⟩

end Go.Proofs.Ytdbgcbbfnjoebaa
