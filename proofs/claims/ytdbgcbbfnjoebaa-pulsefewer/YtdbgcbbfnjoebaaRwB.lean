/- The program's writer: writing on, to take, flags, symbols. -/
import Derived.Test.YtdbgcbbfnjoebaaRwA
namespace Go.Proofs.Ytdbgcbbfnjoebaa
open Go.RowKit

theorem onE_stop {n : Nat} {s : Es} (h : 8388608 < s.rng) : onE n s = s := by
  cases n with
  | zero => rfl
  | succ n => unfold onE; rw [if_neg (by omega)]

theorem onE_step {n : Nat} {s : Es} (h : s.rng ≤ 8388608) : onE (n + 1) s = onE n (stepE s) := if_pos h

/-- One round of writing on, in memory, behind the byte to the front. -/
theorem Wd.step {S : Nat → Prop} {p : Nat} {t : Es} {w : World} (h : Wd S p { t with front := frontE t } w) {l r c : Int} (hl : l = (t.low % 8388608 * 256 : Nat)) (hr : r = (t.rng * 256 : Nat)) (hc : c = (t.cnt + 8 : Nat)) :
    Wd S p (stepE t) (((w.setCell ⟨p, 1, none⟩ (.int .i64 l)).setCell ⟨p, 2, none⟩ (.int .i64 r)).setCell ⟨p, 6, none⟩ (.int .i64 c)) :=
  ((h.setLow _ hl).setRng _ hr).setCnt _ hc

set_option maxRecDepth 100000 in
set_option maxHeartbeats 1600000 in
theorem goOnE_any (S : Nat → Prop) (p : Nat) (s : Es) (w : World) (h : Wd S p s w) (hp : PreE s) (hc : s.cnt ≤ 1000000000000000) :
    Calls Try.prog 77 #[.pointer (some ⟨p, 0, none⟩)] w fun e w' => e = .returned (.tuple #[]) ∧ ∃ S', Wd S' p (onE 3 s) w' ∧ Went S w S' w' := by
  obtain ⟨E, hE⟩ : ∃ E, onE 3 s = E := ⟨_, rfl⟩
  rw [hE]
  have H0 : Hid (onE 3 s = E ∧ 8388608 < s.rng * 256 ^ 3 ∧ PreE s ∧ s.cnt + 8 * 3 ≤ 2000000000000000 ∧ Wd S p s w ∧ Went S w S w) := ⟨hE, by have := hp.rlow; omega, hp, by omega, h, Went.refl _ _⟩
  clear hE h hp hc
  go_enter Try.func77, Try.ntmps77
  go_wp2
  go_loopg [] 3 (fun k W => ∃ t S', Hid (onE k t = E ∧ 8388608 < t.rng * 256 ^ k ∧ PreE t ∧ t.cnt + 8 * k ≤ 2000000000000000 ∧ Wd S' p t W ∧ Went S w S' W))
  case atStart => exact ⟨s, S, H0.out⟩
  case round =>
    obtain ⟨t, S', hr⟩ := hrel
    obtain ⟨r1, r2, r3, r4, r5, r6⟩ := hr.out
    obtain ⟨q1, q2, _, _, q6, qf⟩ := r5.fields
    have hp6 := r5.home
    by_cases hlt : t.rng ≤ 8388608
    · obtain ⟨k, rfl⟩ : ∃ k, gk = k + 1 := by
        cases gk with
        | zero => simp at r2; omega
        | succ k => exact ⟨k, rfl⟩
      have H1 : Hid (onE k (stepE t) = E ∧ 8388608 < (stepE t).rng * 256 ^ k ∧ PreE (stepE t) ∧ (stepE t).cnt + 8 * k ≤ 2000000000000000) := by
        refine ⟨by rw [← r1, onE_step hlt], ?_, stepE_pre r3 hlt, ?_⟩
        · show 8388608 < t.rng * 256 * 256 ^ k
          rw [Nat.pow_succ] at r2
          rw [Nat.mul_assoc, Nat.mul_comm 256]
          exact r2
        · show t.cnt + 8 + 8 * k ≤ _
          omega
      have R3 : Hid (PreE t) := r3
      have R5 : Hid (Wd S' p t wr) := r5
      have R6 : Hid (Went S w S' wr) := r6
      have hlt2 : ((t.rng : Int) ≤ 8388608) = True := eq_true (by omega)
      have b1 : t.low ≤ 4294967296 := by have := r3.low; omega
      have b2 : t.rng ≤ 4294967296 := by omega
      have b3 : t.cnt ≤ 2000000000000000 := by omega
      have HLT : Hid (t.rng ≤ 8388608) := hlt
      clear r1 r2 r3 r4 r5 r6 hr hlt hp6
      go_wp2_with (go_at_call 78; refine (toFront_any S' p t _ R5.out R3.out).mono ?_; rintro e w1 ⟨rfl, S2, k1, k2⟩; have K1 : Hid (Wd S2 p { t with front := frontE t } w1) := k1; have K2 : Hid (Went S' wr S2 w1) := k2; obtain ⟨v1, v2, _, _, v6, vf⟩ := k1.fields; clear k1 k2)
      go_roundg k
      case measure => omega
      case rel => exact ⟨stepE t, S2, H1.out.1, H1.out.2.1, H1.out.2.2.1, H1.out.2.2.2, K1.out.step (by go_num) (by go_num) (by go_num), (((R6.out.trans K2.out).set K1.out.home _ _).set K1.out.home _ _).set K1.out.home _ _⟩
    · have HT : Hid (t = E) := by rw [onE_stop (by omega)] at r1; exact r1
      have R5 : Hid (Wd S' p t wr) := r5
      have R6 : Hid (Went S w S' wr) := r6
      have hlt2 : ((t.rng : Int) ≤ 8388608) = False := eq_false (by omega)
      clear r1 r2 r3 r4 r5 r6 hr hlt hp6
      go_wp2
      go_end0
      exact ⟨rfl, S', by rw [← HT.out]; exact R5.out, R6.out⟩

theorem narrowEs_pos {s : Es} {fl fh ft : Nat} (h : 0 < fl) : narrowEs s fl fh ft = { s with low := s.low + (s.rng - s.rng / ft * (ft - fl)), rng := s.rng / ft * (fh - fl) } := by
  unfold narrowEs narrowE
  simp only [if_pos h]

theorem narrowEs_zero {s : Es} {fh ft : Nat} : narrowEs s 0 fh ft = { s with rng := s.rng - s.rng / ft * (ft - fh) } := by
  unfold narrowEs narrowE
  simp only [Nat.lt_irrefl, if_false]

set_option maxRecDepth 100000 in
set_option maxHeartbeats 1600000 in
theorem takeE_any (S : Nat → Prop) (p : Nat) (s : Es) (fl fh ft : Int) (l u f : Nat) (hl : fl = l) (hu : fh = u) (hf : ft = f) (w : World) (h : Wd S p s w) (hi : InvE s) (h1 : l < u) (h2 : u ≤ f) (h3 : f ≤ 32768) (hc : s.cnt ≤ 1000000000000000) :
    Calls Try.prog 71 #[.pointer (some ⟨p, 0, none⟩), .int .i64 fl, .int .i64 fh, .int .i64 ft] w fun e w' => e = .returned (.tuple #[]) ∧ ∃ S', Wd S' p (takeE s l u f) w' ∧ Went S w S' w' := by
  subst hl hu hf
  obtain ⟨q1, q2, _, _, _, qf⟩ := h.fields
  have HP : Hid (PreE (narrowEs s l u f)) := narrow_pre_es hi h1 h2 h3
  have i1 := hi.wide
  have i2 := hi.pre.rhigh
  have i3 : s.low ≤ 4294967296 := by have := hi.pre.low; omega
  have m1 : s.rng / f * (u - l) ≤ s.rng / f * f := Nat.mul_le_mul_left _ (by omega)
  have m2 : s.rng / f * (f - u) ≤ s.rng / f * f := Nat.mul_le_mul_left _ (by omega)
  have m4 : s.rng / f * (f - l) ≤ s.rng / f * f := Nat.mul_le_mul_left _ (by omega)
  have m3 : s.rng / f * f ≤ s.rng := Nat.div_mul_le_self _ _
  have c1 := cast_part s.rng f f u h2
  have c2 := cast_part s.rng f u l (by omega)
  have c3 := cast_part s.rng f f l (by omega)
  have b1 : 0 ≤ (s.rng : Int) / (f : Int) * ((f : Int) - (u : Int)) := by rw [← c1]; omega
  have b2 : (s.rng : Int) / (f : Int) * ((f : Int) - (u : Int)) ≤ s.rng := by rw [← c1]; omega
  have b3 : 0 ≤ (s.rng : Int) / (f : Int) * ((u : Int) - (l : Int)) := by rw [← c2]; omega
  have b4 : (s.rng : Int) / (f : Int) * ((u : Int) - (l : Int)) ≤ 2147483648 := by rw [← c2]; omega
  have b5 : 0 ≤ (s.rng : Int) / (f : Int) * ((f : Int) - (l : Int)) := by rw [← c3]; omega
  have b6 : (s.rng : Int) / (f : Int) * ((f : Int) - (l : Int)) ≤ s.rng := by rw [← c3]; omega
  have e0 : 0 ≤ (s.rng : Int) / (f : Int) := Int.ediv_nonneg (by omega) (by omega)
  have e2 : (s.rng : Int) / (f : Int) ≤ 2147483648 := Int.le_trans (Int.ediv_le_self _ (by omega)) (by omega)
  have HH : Hid (Wd S p s w) := h
  have hc2 : (narrowEs s l u f).cnt ≤ 1000000000000000 := hc
  clear h hi
  by_cases h0 : 0 < l
  · have HW : Hid (∀ v r : Int, v = (s.low : Int) + ((s.rng : Int) - (s.rng : Int) / (f : Int) * ((f : Int) - (l : Int))) → r = (s.rng : Int) / (f : Int) * ((u : Int) - (l : Int)) → Wd S p (narrowEs s l u f) ((w.setCell ⟨p, 1, none⟩ (.int .i64 v)).setCell ⟨p, 2, none⟩ (.int .i64 r)).drew) := fun v r e1 e2 => by
      rw [narrowEs_pos h0]
      exact (HH.out.setLow (s.low + (s.rng - s.rng / f * (f - l))) (by rw [e1, ← c3]; omega)).setRng (s.rng / f * (u - l)) (by rw [e2, c2]) |>.drew
    have HB : Hid (∀ v r, Went S w S ((w.setCell ⟨p, 1, none⟩ v).setCell ⟨p, 2, none⟩ r).drew) := fun _ _ => (((Went.refl S w).set HH.out.home _ _).set HH.out.home _ _).drew
    clear c1 c2 c3 m1 m2 m3 m4
    go_enter Try.func71, Try.ntmps71
    go_wp2
    go_region_with (fail)
    all_goals
      go_wp2_with (go_at_call 77; refine (goOnE_any S p _ _ (HW.out _ _ rfl rfl) HP.out hc2).mono ?_; rintro e w' ⟨rfl, S2, hw1, hw2⟩)
      go_end0
      exact ⟨rfl, S2, hw1, (HB.out _ _).trans hw2⟩
  · obtain rfl : l = 0 := by omega
    have HW : Hid (∀ r : Int, r = (s.rng : Int) - (s.rng : Int) / (f : Int) * ((f : Int) - (u : Int)) → Wd S p (narrowEs s 0 u f) (w.setCell ⟨p, 2, none⟩ (.int .i64 r))) := fun r e1 => by
      rw [narrowEs_zero]
      exact HH.out.setRng (s.rng - s.rng / f * (f - u)) (by rw [e1, ← c1]; omega)
    have HB : Hid (∀ r, Went S w S (w.setCell ⟨p, 2, none⟩ r)) := fun _ => (Went.refl S w).set HH.out.home _ _
    clear c1 c2 c3 m1 m2 m3 m4 b3 b4 b5 b6
    go_enter Try.func71, Try.ntmps71
    go_wp2_with (go_at_call 77; refine (goOnE_any S p _ _ (HW.out _ rfl) HP.out hc2).mono ?_; rintro e w' ⟨rfl, S2, hw1, hw2⟩)
    go_end0
    exact ⟨rfl, S2, hw1, (HB.out _).trans hw2⟩

end Go.Proofs.Ytdbgcbbfnjoebaa
