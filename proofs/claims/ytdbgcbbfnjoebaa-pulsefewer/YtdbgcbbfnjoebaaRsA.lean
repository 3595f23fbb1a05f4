/- The document's own reader: going on; to choose, to take; flags; how much was read. -/
import Derived.Test.YtdbgcbbfnjoebaaRsO
namespace Go.Proofs.Ytdbgcbbfnjoebaa
open Go.RowKit

set_option maxHeartbeats 800000 in
theorem ron_any (p g : Nat) (bs : List Nat) (s : St) (ee : Nat) (w : World) (h : Rq p g bs s ee w) (hp : Pre s) (hc : s.cnt ≤ 1000000000000000) :
    Calls Try.prog 37 #[.pointer (some ⟨p, 0, none⟩)] w fun e w' => e = .returned (.tuple #[]) ∧ Rq p g bs (onS bs 3 s) ee w' ∧ But p w w' := by
  have HE : Hid (∃ E, onS bs 3 s = E) := ⟨_, rfl⟩
  obtain ⟨E, hE⟩ := HE.out
  rw [hE]
  have H0 : Hid (onS bs 3 s = E ∧ 8388608 < s.rng * 256 ^ 3 ∧ Pre s ∧ s.cnt + 8 * 3 ≤ 2000000000000000 ∧ Rq p g bs s ee w ∧ But p w w) := ⟨hE, by have := hp.low; omega, hp, by omega, h, But.refl _ _⟩
  clear hE h hp hc HE
  go_enter Try.func37, Try.ntmps37
  go_wp2
  go_loopg [] 3 (fun k W => ∃ t, onS bs k t = E ∧ 8388608 < t.rng * 256 ^ k ∧ Pre t ∧ t.cnt + 8 * k ≤ 2000000000000000 ∧ Rq p g bs t ee W ∧ But p w W)
  case atStart => exact ⟨s, H0.out⟩
  case round =>
    obtain ⟨t, r1, r2, r3, r4, r5, r6⟩ := hrel
    by_cases hlt : t.rng ≤ 8388608
    · obtain ⟨k, rfl⟩ : ∃ k, gk = k + 1 := by
        cases gk with
        | zero => simp at r2; omega
        | succ k => exact ⟨k, rfl⟩
      have hy := r5.bytes t.front
      have H1 : Hid (onS bs k (stepS bs t) = E ∧ 8388608 < (stepS bs t).rng * 256 ^ k ∧ Pre (stepS bs t) ∧ (stepS bs t).cnt + 8 * k ≤ 2000000000000000) := by
        refine ⟨by rw [← r1, onS_step hlt], ?_, stepS_pre r5.bytes r3 hlt, ?_⟩
        · show 8388608 < t.rng * 256 * 256 ^ k
          rw [Nat.pow_succ] at r2
          rw [Nat.mul_assoc, Nat.mul_comm 256]
          exact r2
        · show t.cnt + 8 + 8 * k ≤ _
          omega
      obtain ⟨q1, q2, q3, q8, q9, q10, qf⟩ := r5.fields
      have v1 := r3.low
      have v2 := r3.high
      have v3 := r3.val
      have v4 := r3.last
      have R5 : Hid (∀ c r : Int, c = (t.cnt + 8 : Nat) → r = (t.rng * 256 : Nat) → Rq p g bs { t with cnt := t.cnt + 8, rng := t.rng * 256 } ee ((wr.setCell ⟨p, 8, none⟩ (.int .i64 c)).setCell ⟨p, 1, none⟩ (.int .u64 r))) := fun c r e1 e2 => (r5.setCnt _ e1).setRng _ e2
      clear r1 r2 r3 r5
      go_wp2_with (go_at_call 36; refine (rnext_any p g bs _ ee _ (R5.out _ _ rfl rfl)).mono ?_; rintro e w1 ⟨rfl, hw1, hw2⟩; obtain ⟨p1, p2, p3, p8, p9, p10, pf⟩ := hw1.fields)
      go_roundg k
      case measure => omega
      case rel => exact ⟨stepS bs t, H1.out.1, H1.out.2.1, H1.out.2.2.1, H1.out.2.2.2, (hw1.setLast _ rfl).setVal _ (by omega), ((((r6.set _ _).set _ _).trans hw2).set _ _).set _ _⟩
    · have HT : Hid (t = E) := by rw [onS_stop (by omega)] at r1; exact r1
      obtain ⟨q1, q2, q3, q8, q9, q10, qf⟩ := r5.fields
      have R5 : Hid (Rq p g bs t ee wr) := r5
      clear r1 r2 r3 r5
      go_wp2
      go_end0
      exact ⟨rfl, by rw [← HT.out]; exact R5.out, r6⟩

theorem ret_u64 {a b : Int} (h : a = b) : Ending.returned (.int .u64 a) = Ending.returned (.int .u64 b) := by rw [h]

theorem rchoose_any (p g : Nat) (bs : List Nat) (s : St) (ee : Nat) (ft : Int) (f : Nat) (hf : ft = f) (w : World) (h : Rq p g bs s ee w) (hi : Inv s) (h1 : 1 ≤ f) (h2 : f ≤ 32768) :
    Calls Try.prog 64 #[.pointer (some ⟨p, 0, none⟩), .int .u64 ft] w fun e w' => e = .returned (.int .u64 (chooseS s f)) ∧ Rq p g bs s (s.rng / f) w' ∧ But p w w' := by
  subst hf
  obtain ⟨q1, q2, _, _, _, q10, qf⟩ := h.fields
  have i1 := hi.low
  have i2 := hi.high
  have i3 := hi.val
  have e1 : (1 : Int) ≤ (s.rng : Int) / (f : Int) := (Int.le_ediv_iff_mul_le (by omega)).2 (by omega)
  have e2 : (s.rng : Int) / (f : Int) ≤ 2147483648 := Int.le_trans (Int.ediv_le_self _ (by omega)) (by omega)
  have HC : Hid ((chooseS s f : Int) = (f : Int) - min ((s.val : Int) / ((s.rng : Int) / (f : Int)) + 1) f) := cast_choose s f
  have e3 : 0 ≤ (s.val : Int) / ((s.rng : Int) / (f : Int)) := Int.ediv_nonneg (by omega) (by omega)
  have e4 : (s.val : Int) / ((s.rng : Int) / (f : Int)) ≤ 2147483648 := Int.le_trans (Int.ediv_le_self _ (by omega)) (by omega)
  have HN : Hid (∀ v : Int, v = (s.rng : Int) / (f : Int) → Rq p g bs s (s.rng / f) (w.setCell ⟨p, 10, none⟩ (.int .u64 v))) := fun v hv => h.setE _ (by rw [hv, Int.natCast_ediv])
  clear h hi
  go_enter Try.func64, Try.ntmps64
  go_wp2
  go_quiet (fail)
  go_wp2
  all_goals
    go_ret
    exact ⟨ret_u64 (by rw [HC.out]; omega), HN.out _ rfl, ((But.refl p w).set _ _).drewN _⟩

theorem cast_part' (E a b : Nat) (h : b ≤ a) : ((E * (a - b) : Nat) : Int) = (E : Int) * ((a : Int) - (b : Int)) := by
  rw [Int.natCast_mul, Int.ofNat_sub h]

set_option maxHeartbeats 800000 in
theorem rtake_any (p g : Nat) (bs : List Nat) (s : St) (fl fh ft : Int) (l u f : Nat) (hl : fl = l) (hu : fh = u) (hf : ft = f) (w : World) (h : Rq p g bs s (s.rng / f) w) (hi : Inv s) (h1 : 1 ≤ f) (h2 : f ≤ 32768)
    (h3 : l ≤ chooseS s f) (h4 : chooseS s f < u) (h5 : u ≤ f) (hc : s.cnt ≤ 1000000000000000) :
    Calls Try.prog 65 #[.pointer (some ⟨p, 0, none⟩), .int .u64 fl, .int .u64 fh, .int .u64 ft] w fun e w' => e = .returned (.tuple #[]) ∧ Rq p g bs (takeS bs s l u f) (s.rng / f) w' ∧ But p w w' := by
  subst hl hu hf
  obtain ⟨q1, q2, _, _, _, q10, qf⟩ := h.fields
  obtain ⟨HP, _⟩ := narrow_pre hi h1 h2 h3 h4 h5
  obtain ⟨a1, a2, a3, a4⟩ := choose_out hi h1 h2 h3 h4 h5
  have i1 := hi.low
  have i2 := hi.high
  have i3 := hi.val
  have m1 : s.rng / f * (u - l) ≤ s.rng / f * f := Nat.mul_le_mul_left _ (by omega)
  have m0 : s.rng / f * (f - u) ≤ s.rng / f * f := Nat.mul_le_mul_left _ (by omega)
  have c1 := cast_part' (s.rng / f) f u h5
  have c2 := cast_part' (s.rng / f) u l (by omega)
  have HW : Hid (∀ v r : Int, v = (narrowS s l u f).val → r = (narrowS s l u f).rng → Rq p g bs (narrowS s l u f) (s.rng / f) ((w.setCell ⟨p, 2, none⟩ (.int .u64 v)).setCell ⟨p, 1, none⟩ (.int .u64 r))) := fun _ _ e1 e2 => (h.setVal _ e1).setRng _ e2
  have HB : Hid (∀ v r, But p w ((w.setCell ⟨p, 2, none⟩ v).setCell ⟨p, 1, none⟩ r)) := fun _ _ => ((But.refl p w).set _ _).set _ _
  have hN : (narrowS s l u f).val = s.val - s.rng / f * (f - u) := rfl
  have hM : (narrowS s l u f).rng = if 0 < l then s.rng / f * (u - l) else s.rng - s.rng / f * (f - u) := rfl
  have ht : takeS bs s l u f = onS bs 3 (narrowS s l u f) := rfl
  have hcc : (narrowS s l u f).cnt ≤ 1000000000000000 := hc
  rw [ht]
  clear h ht
  generalize narrowS s l u f = N at *
  generalize s.rng / f = E at *
  have b0 : E ≤ 2147483648 := by
    have : E * 1 ≤ E * f := Nat.mul_le_mul_left _ h1
    omega
  have b1 : 0 ≤ (E : Int) * ((f : Int) - (u : Int)) := by rw [← c1]; omega
  have b2 : (E : Int) * ((f : Int) - (u : Int)) ≤ s.val := by rw [← c1]; omega
  have b3 : 0 ≤ (E : Int) * ((u : Int) - (l : Int)) := by rw [← c2]; omega
  have b4 : (E : Int) * ((u : Int) - (l : Int)) ≤ 2147483648 := by rw [← c2]; omega
  have HV : Hid ((s.val : Int) - (E : Int) * ((f : Int) - (u : Int)) = N.val) := by
    show _ = _
    rw [hN, ← c1]; omega
  by_cases h0 : 0 < l
  · have HR : Hid ((E : Int) * ((u : Int) - (l : Int)) = N.rng) := by
      show _ = _
      rw [hM, if_pos h0, c2]
    clear c1 c2 m0 m1 a2 a3 a4 hN hM
    go_enter Try.func65, Try.ntmps65
    go_wp2_with (go_at_call 37; refine (ron_any p g bs _ _ _ (HW.out _ _ HV.out HR.out) HP hcc).mono ?_; rintro e w' ⟨rfl, hw1, hw2⟩)
    go_end0
    exact ⟨rfl, hw1, (HB.out _ _).trans hw2⟩
  · have HR : Hid ((s.rng : Int) - (E : Int) * ((f : Int) - (u : Int)) = N.rng) := by
      show _ = _
      rw [hM, if_neg h0, ← c1]
      omega
    clear c1 c2 m0 m1 a2 a3 a4 hN hM
    go_enter Try.func65, Try.ntmps65
    go_wp2_with (go_at_call 37; refine (ron_any p g bs _ _ _ (HW.out _ _ HV.out HR.out) HP hcc).mono ?_; rintro e w' ⟨rfl, hw1, hw2⟩)
    go_end0
    exact ⟨rfl, hw1, (HB.out _ _).trans hw2⟩

theorem rlen_nat_any (x : Nat) (w : World) (h1 : x ≤ 9223372036854775807) :
    Calls Try.prog 42 #[.int .i64 x] w fun e w' => e = .returned (.int .i64 (lenN x)) ∧ w' = w := by
  have HL : Lib.bitLen ((x : Int)).toNat = lenN x := by
    rw [Int.toNat_natCast]
    exact bitLen_lenN x (by omega)
  rw [← HL]
  exact rlen_any (x : Int) w (by omega)

theorem rtell_any (p g : Nat) (bs : List Nat) (s : St) (w : World) (h' : Rr p g bs s w) (hi : Inv s) (hc : s.cnt ≤ 2000000000000000) :
    Calls Try.prog 21 #[.pointer (some ⟨p, 0, none⟩)] w fun e w' => e = .returned (.int .i64 (tellZ s)) ∧ ∃ k, w' = w.drewN k := by
  obtain ⟨ee, h⟩ := h'
  obtain ⟨q1, q2, _, q8, _, _, _⟩ := h.fields
  have i1 := hi.low
  have i2 := hi.high
  have i3 := lenN_in i1 i2
  have HT : Hid ((s.cnt : Int) - (lenN s.rng : Int) = tellZ s) := rfl
  clear h hi
  go_enter Try.func21, Try.ntmps21
  go_wp2
  go_quiet (first | (go_at_call 42; exact Calls.quiet_of_same (rlen_nat_any _ _ (by omega))))
  go_wp2
  go_ret
  exact ⟨ret_int (by rw [← HT.out]), _, rfl⟩

end Go.Proofs.Ytdbgcbbfnjoebaa
