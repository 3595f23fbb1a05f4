/- The program's reader: to choose, to take, a number of as many that are as likely, flags, how much was read. -/
import Derived.Test.YtdbgcbbfnjoebaaRcA
namespace Go.Proofs.Ytdbgcbbfnjoebaa
open Go.RowKit

theorem cast_choose (s : St) (f : Nat) : (chooseS s f : Int) = (f : Int) - min ((s.val : Int) / ((s.rng : Int) / (f : Int)) + 1) f := by
  unfold chooseS
  rw [show ((s.val : Int) / ((s.rng : Int) / (f : Int))) = ((s.val / (s.rng / f) : Nat) : Int) by rw [Int.natCast_ediv, Int.natCast_ediv]]
  generalize s.val / (s.rng / f) = q
  omega

theorem choose_any (p g : Nat) (bs : List Nat) (s : St) (ft : Int) (f : Nat) (hf : ft = f) (w : World) (h : Rd p g bs s w) (hi : Inv s) (h1 : 1 ≤ f) (h2 : f ≤ 32768) :
    Calls Try.prog 68 #[.pointer (some ⟨p, 0, none⟩), .int .i64 ft] w fun e w' => e = .returned (.int .i64 (chooseS s f)) ∧ ∃ k, w' = w.drewN k := by
  subst hf
  obtain ⟨q1, q2, _, _, _, _, _⟩ := h.fields
  have i1 := hi.low
  have i2 := hi.high
  have i3 := hi.val
  have e1 : (1 : Int) ≤ (s.rng : Int) / (f : Int) := (Int.le_ediv_iff_mul_le (by omega)).2 (by omega)
  have e2 : (s.rng : Int) / (f : Int) ≤ 2147483648 := Int.le_trans (Int.ediv_le_self _ (by omega)) (by omega)
  have HC : Hid ((chooseS s f : Int) = (f : Int) - min ((s.val : Int) / ((s.rng : Int) / (f : Int)) + 1) f) := cast_choose s f
  have e3 : 0 ≤ (s.val : Int) / ((s.rng : Int) / (f : Int)) := Int.ediv_nonneg (by omega) (by omega)
  have e4 : (s.val : Int) / ((s.rng : Int) / (f : Int)) ≤ 2147483648 := Int.le_trans (Int.ediv_le_self _ (by omega)) (by omega)
  clear h hi
  go_enter Try.func68, Try.ntmps68
  go_wp2
  go_quiet (fail)
  go_wp2
  all_goals
    go_ret
    exact ⟨ret_int (by rw [HC.out]; omega), _, rfl⟩

/-- What is narrowed, in memory. -/
theorem Rd.narrow {p g : Nat} {bs : List Nat} {s : St} {w : World} (h : Rd p g bs s w) (fl fh ft : Nat) {v r : Int} (hv : v = (narrowS s fl fh ft).val) (hr : r = (narrowS s fl fh ft).rng) :
    Rd p g bs (narrowS s fl fh ft) ((w.setCell ⟨p, 2, none⟩ (.int .i64 v)).setCell ⟨p, 1, none⟩ (.int .i64 r)) := (h.setVal _ hv).setRng _ hr

theorem cast_part (r ft a b : Nat) (h : b ≤ a) : ((r / ft * (a - b) : Nat) : Int) = (r : Int) / (ft : Int) * ((a : Int) - (b : Int)) := by
  rw [Int.natCast_mul, Int.natCast_ediv, Int.ofNat_sub h]

set_option maxHeartbeats 800000 in
theorem take_any (p g : Nat) (bs : List Nat) (s : St) (fl fh ft : Int) (l u f : Nat) (hl : fl = l) (hu : fh = u) (hf : ft = f) (w : World) (h : Rd p g bs s w) (hi : Inv s) (h1 : 1 ≤ f) (h2 : f ≤ 32768)
    (h3 : l ≤ chooseS s f) (h4 : chooseS s f < u) (h5 : u ≤ f) (hc : s.cnt ≤ 1000000000000000) :
    Calls Try.prog 69 #[.pointer (some ⟨p, 0, none⟩), .int .i64 fl, .int .i64 fh, .int .i64 ft] w fun e w' => e = .returned (.tuple #[]) ∧ Rd p g bs (takeS bs s l u f) w' ∧ But p w w' := by
  subst hl hu hf
  obtain ⟨q1, q2, _, _, _, _, qf⟩ := h.fields
  obtain ⟨HP, _⟩ := narrow_pre hi h1 h2 h3 h4 h5
  obtain ⟨a1, a2, a3, a4⟩ := choose_out hi h1 h2 h3 h4 h5
  have i1 := hi.low
  have i2 := hi.high
  have i3 := hi.val
  have m1 : s.rng / f * (u - l) ≤ s.rng / f * f := Nat.mul_le_mul_left _ (by omega)
  have H5 : Hid (s.rng / f * (f - u) ≤ s.rng / f * f) := Nat.mul_le_mul_left _ (by omega)
  have c1 := cast_part s.rng f f u h5
  have c2 := cast_part s.rng f u l (by omega)
  have b1 : 0 ≤ (s.rng : Int) / (f : Int) * ((f : Int) - (u : Int)) := by rw [← c1]; omega
  have b2 : (s.rng : Int) / (f : Int) * ((f : Int) - (u : Int)) ≤ s.val := by rw [← c1]; omega
  have b3 : 0 ≤ (s.rng : Int) / (f : Int) * ((u : Int) - (l : Int)) := by rw [← c2]; omega
  have b4 : (s.rng : Int) / (f : Int) * ((u : Int) - (l : Int)) ≤ 2147483648 := by rw [← c2]; omega
  have e0 : 0 ≤ (s.rng : Int) / (f : Int) := Int.ediv_nonneg (by omega) (by omega)
  have e2 : (s.rng : Int) / (f : Int) ≤ 2147483648 := Int.le_trans (Int.ediv_le_self _ (by omega)) (by omega)
  have HV : Hid ((s.val : Int) - (s.rng : Int) / (f : Int) * ((f : Int) - (u : Int)) = (narrowS s l u f).val) := by
    show _ = ((s.val - s.rng / f * (f - u) : Nat) : Int)
    rw [← c1]; omega
  have HW : Hid (∀ v r : Int, v = (narrowS s l u f).val → r = (narrowS s l u f).rng → Rd p g bs (narrowS s l u f) ((w.setCell ⟨p, 2, none⟩ (.int .i64 v)).setCell ⟨p, 1, none⟩ (.int .i64 r))) := fun _ _ e1 e2 => h.narrow l u f e1 e2
  have HB : Hid (∀ v r, But p w ((w.setCell ⟨p, 2, none⟩ v).setCell ⟨p, 1, none⟩ r)) := fun _ _ => ((But.refl p w).set _ _).set _ _
  clear h
  by_cases h0 : 0 < l
  · have HR : Hid ((s.rng : Int) / (f : Int) * ((u : Int) - (l : Int)) = (narrowS s l u f).rng) := by
      show _ = ((if 0 < l then s.rng / f * (u - l) else _ : Nat) : Int)
      rw [if_pos h0, c2]
    clear c1 c2 H5 m1 a2 a3 a4
    go_enter Try.func69, Try.ntmps69
    go_wp2_with (go_at_call 29; refine (goOn_any p g bs _ _ (HW.out _ _ HV.out HR.out) HP hc).mono ?_; rintro e w' ⟨rfl, hw1, hw2⟩)
    go_end0
    exact ⟨rfl, hw1, (HB.out _ _).trans hw2⟩
  · have HR : Hid ((s.rng : Int) - (s.rng : Int) / (f : Int) * ((f : Int) - (u : Int)) = (narrowS s l u f).rng) := by
      show _ = ((if 0 < l then _ else s.rng - s.rng / f * (f - u) : Nat) : Int)
      rw [if_neg h0, ← c1]
      have := H5.out
      omega
    clear c1 c2 H5 m1 a2 a3 a4
    go_enter Try.func69, Try.ntmps69
    go_wp2_with (go_at_call 29; refine (goOn_any p g bs _ _ (HW.out _ _ HV.out HR.out) HP hc).mono ?_; rintro e w' ⟨rfl, hw1, hw2⟩)
    go_end0
    exact ⟨rfl, hw1, (HB.out _ _).trans hw2⟩

theorem whole_any (p g : Nat) (bs : List Nat) (s : St) (ft : Int) (f : Nat) (hf : ft = f) (w : World) (h : Rd p g bs s w) (hi : Inv s) (h1 : 1 ≤ f) (h2 : f ≤ 32768) (hc : s.cnt ≤ 1000000000000000) :
    Calls Try.prog 76 #[.pointer (some ⟨p, 0, none⟩), .int .i64 ft] w fun e w' => e = .returned (.int .i64 (chooseS s f)) ∧ Rd p g bs (takeS bs s (chooseS s f) (chooseS s f + 1) f) w' ∧ But p w w' := by
  subst hf
  have hk := chooseS_lt (s := s) h1
  have HH : Hid (Rd p g bs s w) := h
  clear h
  go_enter Try.func76, Try.ntmps76
  go_wp2_with (first
    | (go_at_call 68; refine (choose_any p g bs s _ f rfl _ HH.out hi h1 h2).mono ?_; rintro e w' ⟨rfl, k, rfl⟩)
    | (go_at_call 69; refine (take_any p g bs s _ _ _ (chooseS s f) (chooseS s f + 1) f rfl ?_ rfl _ (HH.out.drewN _) hi h1 h2 (Nat.le_refl _) (Nat.lt_succ_self _) hk hc).mono ?_; (· simp); rintro e w' ⟨rfl, hw1, hw2⟩))
  go_ret
  exact ⟨rfl, hw1, ((But.refl p w).drewN _).trans hw2⟩

theorem flag_eq (s : St) (n : Nat) : flagPre n s = if s.val < s.rng / 2 ^ n then (true, { s with rng := s.rng / 2 ^ n }) else (false, { s with val := s.val - s.rng / 2 ^ n, rng := s.rng - s.rng / 2 ^ n }) := rfl

end Go.Proofs.Ytdbgcbbfnjoebaa
