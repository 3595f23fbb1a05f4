/- The program's writer: numbers that are mostly small. -/
import Derived.Test.YtinjkffkkmbioaaRwE
import Derived.Test.YtinjkffkkmbioaaRcE
namespace Go.Proofs.Ytinjkffkkmbioaa
open Go.RowKit

/-- What the search for a number's part tells. -/
def LapTold (fs decay : Nat) (v : Int) (e : Ending) : Prop :=
  ∃ l s : Nat, e = .returned (.tuple #[.int .i64 (lapW fs decay v), .int .i64 l, .int .i64 s]) ∧ l = lapFl fs decay (lapW fs decay v) ∧ l + s = lapFh fs decay (lapW fs decay v) ∧ l + s ≤ 32768 ∧ 1 ≤ s

theorem lapTold_zero {fs decay : Nat} (h1 : 256 ≤ fs) (h2 : fs ≤ 28000) : LapTold fs decay 0 (.returned (.tuple #[.int .i64 0, .int .i64 0, .int .i64 fs])) := by
  have e : lapW fs decay 0 = 0 := by
    unfold lapW sgN
    rw [decide_eq_false (by decide)]
    show sg false (nearN fs decay false 0) = 0
    exact sg_zero false
  refine ⟨0, fs, by rw [e]; rfl, ?_, ?_, by omega, by omega⟩
  · rw [e]; unfold lapFl; rw [if_pos rfl]
  · rw [e]; unfold lapFh; rw [if_pos rfl]; omega

theorem lapTold_end {fs decay k z l x : Nat} {v : Int} (h1 : 256 ≤ fs) (h2 : fs ≤ 28000) (h3 : decay ≤ 16000) (hk : 1 ≤ k) (hkz : k ≤ z) (hza : z ≤ v.natAbs) (hz : z = v.natAbs ∨ 32768 ≤ z) (hall : ∀ j, j < k - 1 → 1 < lapSz fs decay j) (hend : lapSz fs decay (k - 1) = 1 ∨ k = z)
    (hl : l = lapLo fs decay (k - 1) + (if sgN v then 0 else lapSz fs decay (k - 1))) (hx : x = min (z - k) ((32767 - l) / 2)) {a b c : Int} (ha : a = sg (sgN v) (k + x)) (hb : b = (l + 2 * x : Nat)) (hc : c = lapSz fs decay (k - 1)) :
    LapTold fs decay v (.returned (.tuple #[.int .i64 a, .int .i64 b, .int .i64 c])) := by
  obtain ⟨g1, g2, g3, g4⟩ := lap_ended h1 h2 h3 (sgN v) hk hkz hza hz hall hend hl hx
  have e : lapW fs decay v = sg (sgN v) (k + x) := by unfold lapW; rw [g1]
  subst ha hb hc
  refine ⟨l + 2 * x, lapSz fs decay (k - 1), by rw [e], by rw [e, g2], by rw [e, g3], g4, lapSz_pos _ _ _⟩

theorem lapSz_le {fs decay : Nat} (hd : decay ≤ 16000) : ∀ i, lapSz fs decay i ≤ 20000
  | 0 => by
    rw [lapSz_zero]
    have := mul_dec (32736 - fs) (16384 - decay) (by omega)
    omega
  | i + 1 => by
    rw [lapSz_succ]
    have h := lapSz_le (fs := fs) hd i
    have := mul_dec (2 * lapSz fs decay i - 2) decay (by omega)
    omega

set_option maxRecDepth 100000 in
set_option maxHeartbeats 3200000 in
theorem laplace_neg (z : Nat) (fs decay : Nat) (w : World) (h1 : 256 ≤ fs) (h2 : fs ≤ 28000) (h3 : decay ≤ 16000) (hz1 : 1 ≤ z) (hz2 : z ≤ 32768) :
    Calls Try.prog 31 #[.int .i64 (-(z : Int)), .int .i64 fs, .int .i64 decay] w fun e w' => LapTold fs decay (-(z : Int)) e ∧ w' = w := by
  have hne : ((-(z : Int)) == 0) = false := beq_eq_false_iff_ne.2 (by omega)
  obtain ⟨s0, hs0⟩ : ∃ s0, s0 = (32736 - fs) * (16384 - decay) / 32768 + 1 := ⟨_, rfl⟩
  have ES : Hid (((32736 : Int) - fs) * (16384 - decay) / 32768 + 1 = (s0 : Nat)) := by
    show _ = _
    rw [hs0, Int.natCast_add, Int.natCast_ediv, Int.natCast_mul, Int.ofNat_sub (by omega), Int.ofNat_sub (by omega)]
    rfl
  have HS0 : Hid (s0 = lapSz fs decay 0) := by show _ = _; rw [hs0, lapSz_zero]
  have p0 : 0 ≤ ((32736 : Int) - fs) * (16384 - decay) := Int.mul_nonneg (by omega) (by omega)
  have p1 : ((32736 : Int) - fs) * (16384 - decay) ≤ 32736 * 16384 := Int.mul_le_mul (by omega) (by omega) (by omega) (by decide)
  clear hs0
  have hmx : max (-(z : Int)) (-32768) = -(z : Int) := by omega
  have hdz : decide (0 < z) = true := decide_eq_true (by omega)
  have HZ : Hid (z ≤ (-(z : Int)).natAbs ∧ (z = (-(z : Int)).natAbs ∨ 32768 ≤ z)) := ⟨by omega, by omega⟩
  have HSG : Hid (sgN (-(z : Int)) = true) := decide_eq_true (by omega)
  go_enter Try.func31, Try.ntmps31
  go_wp2
  go_loopg [7, 8, 10] (z - 1) (fun n l s kk W => W = w ∧ ∃ k : Nat, n + k = z ∧ 1 ≤ k ∧ l = .int .i64 (lapLo fs decay (k - 1) : Nat) ∧ s = .int .i64 (lapSz fs decay (k - 1) : Nat) ∧ kk = .int .i64 k ∧ Hid (∀ j, j < k - 1 → 1 < lapSz fs decay j))
  case atStart => exact ⟨rfl, 1, by omega, Nat.le_refl 1, rfl, by rw [← HS0.out, ← ES.out], rfl, fun j hj => absurd hj (by omega)⟩
  case round =>
    obtain ⟨rfl, k, hgk, hk1, rfl, rfl, rfl, hall⟩ := hrel
    have hs1 := lapSz_pos fs decay (k - 1)
    have hs2 := lapSz_le (fs := fs) h3 (k - 1)
    obtain ⟨q1, q2⟩ := lap_room h1 h2 h3 hall.out
    have HR2 : Hid (1 < lapSz fs decay (k - 1) → lapLo fs decay (k - 1) + 2 * lapSz fs decay (k - 1) ≤ 32766) := q2
    clear q2
    have HEND : Hid (lapSz fs decay (k - 1) = 1 ∨ k = z → ∀ l x : Nat, l = lapLo fs decay (k - 1) + (if sgN (-(z : Int)) then 0 else lapSz fs decay (k - 1)) → x = min (z - k) ((32767 - l) / 2) → ∀ a b c : Int, a = sg (sgN (-(z : Int))) (k + x) → b = (l + 2 * x : Nat) → c = lapSz fs decay (k - 1) → LapTold fs decay (-(z : Int)) (.returned (.tuple #[.int .i64 a, .int .i64 b, .int .i64 c]))) :=
      fun hend l x hl hx a b c ha hb hc => lapTold_end h1 h2 h3 hk1 (by omega) HZ.out.1 HZ.out.2 hall.out hend hl hx ha hb hc
    by_cases hc : 1 < lapSz fs decay (k - 1) ∧ k < z
    · obtain ⟨n, rfl⟩ : ∃ n, gk = n + 1 := ⟨gk - 1, by omega⟩
      have hroom := HR2.out hc.1
      have e1 : lapLo fs decay (k + 1 - 1) = lapLo fs decay (k - 1) + 2 * lapSz fs decay (k - 1) := by
        rw [show k + 1 - 1 = (k - 1) + 1 by omega, lapLo_succ]
      have e2 : lapSz fs decay (k + 1 - 1) = (2 * lapSz fs decay (k - 1) - 2) * decay / 32768 + 1 := by
        rw [show k + 1 - 1 = (k - 1) + 1 by omega, lapSz_succ]
      have hall2 : Hid (∀ j, j < k + 1 - 1 → 1 < lapSz fs decay j) := fun j hj => by
        by_cases h : j = k - 1
        · rw [h]; exact hc.1
        · exact hall.out j (by omega)
      have E12 : Hid (∃ L' S', lapLo fs decay (k + 1 - 1) = L' ∧ lapSz fs decay (k + 1 - 1) = S') := ⟨_, _, rfl, rfl⟩
      obtain ⟨L', S', hL', hS'⟩ := E12.out
      rw [hL'] at e1
      rw [hS'] at e2
      have HLS : Hid (lapLo fs decay (k + 1 - 1) = L' ∧ lapSz fs decay (k + 1 - 1) = S') := ⟨hL', hS'⟩
      clear HEND HR2 hall hL' hS' E12
      generalize lapSz fs decay (k - 1) = S at *
      generalize lapLo fs decay (k - 1) = L at *
      have ED : Hid (((S : Int) * 2 - 2) * decay / 32768 + 1 = ((2 * S - 2) * decay / 32768 + 1 : Nat)) := cast_next S decay hc.1
      have hd := mul_dec (2 * S - 2) decay (by omega)
      have d0 : 0 ≤ ((S : Int) * 2 - 2) * decay := Int.mul_nonneg (by omega) (by omega)
      have d1 : ((S : Int) * 2 - 2) * decay ≤ 40000 * 16000 := Int.mul_le_mul (by omega) (by omega) (by omega) (by decide)
      have E1 : Hid (L' = L + 2 * S ∧ S' = (2 * S - 2) * decay / 32768 + 1) := ⟨e1, e2⟩
      clear e1 e2
      obtain ⟨hc1, hc2⟩ := hc
      go_wp2
      go_roundg n
      case measure => omega
      case rel => exact ⟨rfl, k + 1, by omega, by omega, by rw [HLS.out.1, E1.out.1]; go_num, by rw [HLS.out.2, E1.out.2, ← ED.out], by go_num, hall2⟩
    · have hend : lapSz fs decay (k - 1) = 1 ∨ k = z := by omega
      have HE2 := HEND.out hend
      clear HEND hall
      rw [HSG.out] at HE2
      simp only [if_true, Nat.add_zero] at HE2
      generalize lapSz fs decay (k - 1) = S at *
      generalize lapLo fs decay (k - 1) = L at *
      have HEN : Hid (∀ l x : Nat, l = L → x = min (z - k) ((32767 - l) / 2) → ∀ a b c : Int, a = sg true (k + x) → b = (l + 2 * x : Nat) → c = S → LapTold fs decay (-(z : Int)) (.returned (.tuple #[.int .i64 a, .int .i64 b, .int .i64 c]))) := HE2
      clear HE2 HR2
      have hsg : ∀ x : Nat, sg true (k + x) = -(k : Int) - x := fun x => by
        show -((k + x : Nat) : Int) = _
        omega
      have HSX : Hid (∀ x : Nat, sg true (k + x) = -(k : Int) - x) := hsg
      clear hsg
      by_cases hs1c : 1 < S
      · have hkz : k = z := by omega
        go_wp2
        all_goals
          go_ret3
          refine ⟨HEN.out L (min (z - k) ((32767 - L) / 2)) rfl rfl _ _ _ ?_ ?_ rfl, rfl⟩
          · rw [HSX.out]; omega
          · omega
      · go_wp2
        all_goals
          go_ret3
          refine ⟨HEN.out L (min (z - k) ((32767 - L) / 2)) rfl rfl _ _ _ ?_ ?_ rfl, rfl⟩
          · rw [HSX.out]; omega
          · omega

set_option maxRecDepth 100000 in
set_option maxHeartbeats 3200000 in
theorem laplace_far (v : Int) (fs decay : Nat) (w : World) (h1 : 256 ≤ fs) (h2 : fs ≤ 28000) (h3 : decay ≤ 16000) (hv : -9223372036854775808 ≤ v ∧ v < -32768) :
    Calls Try.prog 31 #[.int .i64 v, .int .i64 fs, .int .i64 decay] w fun e w' => LapTold fs decay v e ∧ w' = w := by
  have h0 : v ≠ 0 := by omega
  have hne : (v == 0) = false := beq_eq_false_iff_ne.2 h0
  obtain ⟨s0, hs0⟩ : ∃ s0, s0 = (32736 - fs) * (16384 - decay) / 32768 + 1 := ⟨_, rfl⟩
  have ES : Hid (((32736 : Int) - fs) * (16384 - decay) / 32768 + 1 = (s0 : Nat)) := by
    show _ = _
    rw [hs0, Int.natCast_add, Int.natCast_ediv, Int.natCast_mul, Int.ofNat_sub (by omega), Int.ofNat_sub (by omega)]
    rfl
  have HS0 : Hid (s0 = lapSz fs decay 0) := by show _ = _; rw [hs0, lapSz_zero]
  have p0 : 0 ≤ ((32736 : Int) - fs) * (16384 - decay) := Int.mul_nonneg (by omega) (by omega)
  have p1 : ((32736 : Int) - fs) * (16384 - decay) ≤ 32736 * 16384 := Int.mul_le_mul (by omega) (by omega) (by omega) (by decide)
  clear hs0
  have hneg : v < 0 := by omega
  obtain ⟨z, hz⟩ : ∃ z : Nat, z = 32768 := ⟨_, rfl⟩
  have hmx : max v (-32768) = -32768 := by omega
  have hz1 : 1 ≤ z := by omega
  have hz2 : z ≤ 32768 := by omega
  have HZ : Hid (z ≤ v.natAbs ∧ (z = v.natAbs ∨ 32768 ≤ z)) := ⟨by omega, by omega⟩
  have HSG : Hid (sgN v = true) := decide_eq_true hneg
  have HZV : Hid (z = 32768) := hz
  clear hz hz2
  go_enter Try.func31, Try.ntmps31
  go_wp2
  go_loopg [7, 8, 10] (z - 1) (fun n l s kk W => W = w ∧ ∃ k : Nat, n + k = z ∧ 1 ≤ k ∧ l = .int .i64 (lapLo fs decay (k - 1) : Nat) ∧ s = .int .i64 (lapSz fs decay (k - 1) : Nat) ∧ kk = .int .i64 k ∧ Hid (∀ j, j < k - 1 → 1 < lapSz fs decay j))
  case atStart => exact ⟨rfl, 1, by omega, Nat.le_refl 1, rfl, by rw [← HS0.out, ← ES.out], rfl, fun j hj => absurd hj (by omega)⟩
  case round =>
    obtain ⟨rfl, k, hgk, hk1, rfl, rfl, rfl, hall⟩ := hrel
    have hs1 := lapSz_pos fs decay (k - 1)
    have hs2 := lapSz_le (fs := fs) h3 (k - 1)
    obtain ⟨q1, q2⟩ := lap_room h1 h2 h3 hall.out
    have HR2 : Hid (1 < lapSz fs decay (k - 1) → lapLo fs decay (k - 1) + 2 * lapSz fs decay (k - 1) ≤ 32766) := q2
    clear q2
    have HEND : Hid (lapSz fs decay (k - 1) = 1 ∨ k = z → ∀ l x : Nat, l = lapLo fs decay (k - 1) + (if sgN v then 0 else lapSz fs decay (k - 1)) → x = min (z - k) ((32767 - l) / 2) → ∀ a b c : Int, a = sg (sgN v) (k + x) → b = (l + 2 * x : Nat) → c = lapSz fs decay (k - 1) → LapTold fs decay v (.returned (.tuple #[.int .i64 a, .int .i64 b, .int .i64 c]))) :=
      fun hend l x hl hx a b c ha hb hc => lapTold_end h1 h2 h3 hk1 (by omega) HZ.out.1 HZ.out.2 hall.out hend hl hx ha hb hc
    by_cases hc : 1 < lapSz fs decay (k - 1) ∧ k < z
    · obtain ⟨n, rfl⟩ : ∃ n, gk = n + 1 := ⟨gk - 1, by omega⟩
      have hroom := HR2.out hc.1
      have e1 : lapLo fs decay (k + 1 - 1) = lapLo fs decay (k - 1) + 2 * lapSz fs decay (k - 1) := by
        rw [show k + 1 - 1 = (k - 1) + 1 by omega, lapLo_succ]
      have e2 : lapSz fs decay (k + 1 - 1) = (2 * lapSz fs decay (k - 1) - 2) * decay / 32768 + 1 := by
        rw [show k + 1 - 1 = (k - 1) + 1 by omega, lapSz_succ]
      have hall2 : Hid (∀ j, j < k + 1 - 1 → 1 < lapSz fs decay j) := fun j hj => by
        by_cases h : j = k - 1
        · rw [h]; exact hc.1
        · exact hall.out j (by omega)
      have E12 : Hid (∃ L' S', lapLo fs decay (k + 1 - 1) = L' ∧ lapSz fs decay (k + 1 - 1) = S') := ⟨_, _, rfl, rfl⟩
      obtain ⟨L', S', hL', hS'⟩ := E12.out
      rw [hL'] at e1
      rw [hS'] at e2
      have HLS : Hid (lapLo fs decay (k + 1 - 1) = L' ∧ lapSz fs decay (k + 1 - 1) = S') := ⟨hL', hS'⟩
      clear HEND HR2 hall hL' hS' E12
      generalize lapSz fs decay (k - 1) = S at *
      generalize lapLo fs decay (k - 1) = L at *
      have ED : Hid (((S : Int) * 2 - 2) * decay / 32768 + 1 = ((2 * S - 2) * decay / 32768 + 1 : Nat)) := cast_next S decay hc.1
      have hd := mul_dec (2 * S - 2) decay (by omega)
      have d0 : 0 ≤ ((S : Int) * 2 - 2) * decay := Int.mul_nonneg (by omega) (by omega)
      have d1 : ((S : Int) * 2 - 2) * decay ≤ 40000 * 16000 := Int.mul_le_mul (by omega) (by omega) (by omega) (by decide)
      have E1 : Hid (L' = L + 2 * S ∧ S' = (2 * S - 2) * decay / 32768 + 1) := ⟨e1, e2⟩
      clear e1 e2
      obtain ⟨hc1, hc2⟩ := hc
      have hkI : ((k : Int) < 32768) = True := eq_true (by have := HZV.out; omega)
      have hz40 : k ≤ 40000 := by have := HZV.out; omega
      clear hc2
      go_wp2
      go_roundg n
      case measure => omega
      case rel => exact ⟨rfl, k + 1, by omega, by omega, by rw [HLS.out.1, E1.out.1]; go_num, by rw [HLS.out.2, E1.out.2, ← ED.out], by go_num, hall2⟩
    · have hend : lapSz fs decay (k - 1) = 1 ∨ k = z := by omega
      have HE2 := HEND.out hend
      clear HEND hall
      rw [HSG.out] at HE2
      simp only [if_true, Nat.add_zero] at HE2
      generalize lapSz fs decay (k - 1) = S at *
      generalize lapLo fs decay (k - 1) = L at *
      have HEN : Hid (∀ l x : Nat, l = L → x = min (z - k) ((32767 - l) / 2) → ∀ a b c : Int, a = sg true (k + x) → b = (l + 2 * x : Nat) → c = S → LapTold fs decay v (.returned (.tuple #[.int .i64 a, .int .i64 b, .int .i64 c]))) := HE2
      clear HE2 HR2
      have hsg : ∀ x : Nat, sg true (k + x) = -(k : Int) - x := fun x => by
        show -((k + x : Nat) : Int) = _
        omega
      have HSX : Hid (∀ x : Nat, sg true (k + x) = -(k : Int) - x) := hsg
      clear hsg
      by_cases hs1c : 1 < S
      · have hkz : k = z := by omega
        have hkI : ((k : Int) < 32768) = False := eq_false (by have := HZV.out; omega)
        have hz40 : k ≤ 40000 := by have := HZV.out; omega
        clear hkz hend hc
        go_wp2
        all_goals
          go_ret3
          refine ⟨HEN.out L (min (z - k) ((32767 - L) / 2)) rfl rfl _ _ _ ?_ ?_ rfl, rfl⟩
          · rw [HSX.out]; have := HZV.out; omega
          · have := HZV.out; omega
      · have hz40 : k ≤ 40000 := by have := HZV.out; omega
        go_wp2
        all_goals
          go_ret3
          refine ⟨HEN.out L (min (z - k) ((32767 - L) / 2)) rfl rfl _ _ _ ?_ ?_ rfl, rfl⟩
          · rw [HSX.out]; have := HZV.out; omega
          · have := HZV.out; omega

set_option maxRecDepth 100000 in
set_option maxHeartbeats 3200000 in
theorem laplace_pos (z : Nat) (fs decay : Nat) (w : World) (h1 : 256 ≤ fs) (h2 : fs ≤ 28000) (h3 : decay ≤ 16000) (hz1 : 1 ≤ z) (hv : (z : Int) ≤ 9223372036854775807) :
    Calls Try.prog 31 #[.int .i64 z, .int .i64 fs, .int .i64 decay] w fun e w' => LapTold fs decay (z : Int) e ∧ w' = w := by
  have hne : ((z : Int) == 0) = false := beq_eq_false_iff_ne.2 (by omega)
  obtain ⟨s0, hs0⟩ : ∃ s0, s0 = (32736 - fs) * (16384 - decay) / 32768 + 1 := ⟨_, rfl⟩
  have ES : Hid (((32736 : Int) - fs) * (16384 - decay) / 32768 + 1 = (s0 : Nat)) := by
    show _ = _
    rw [hs0, Int.natCast_add, Int.natCast_ediv, Int.natCast_mul, Int.ofNat_sub (by omega), Int.ofNat_sub (by omega)]
    rfl
  have HS0 : Hid (s0 = lapSz fs decay 0) := by show _ = _; rw [hs0, lapSz_zero]
  have p0 : 0 ≤ ((32736 : Int) - fs) * (16384 - decay) := Int.mul_nonneg (by omega) (by omega)
  have p1 : ((32736 : Int) - fs) * (16384 - decay) ≤ 32736 * 16384 := Int.mul_le_mul (by omega) (by omega) (by omega) (by decide)
  clear hs0
  have HZ : Hid (z ≤ ((z : Nat) : Int).natAbs ∧ (z = ((z : Nat) : Int).natAbs ∨ 32768 ≤ z)) := ⟨by omega, by omega⟩
  have HSG : Hid (sgN (z : Int) = false) := decide_eq_false (by omega)
  go_enter Try.func31, Try.ntmps31
  go_wp2
  go_loopg [7, 8, 10] (z - 1) (fun n l s kk W => W = w ∧ ∃ k : Nat, n + k = z ∧ 1 ≤ k ∧ l = .int .i64 (lapLo fs decay (k - 1) : Nat) ∧ s = .int .i64 (lapSz fs decay (k - 1) : Nat) ∧ kk = .int .i64 k ∧ Hid (∀ j, j < k - 1 → 1 < lapSz fs decay j))
  case atStart => exact ⟨rfl, 1, by omega, Nat.le_refl 1, rfl, by rw [← HS0.out, ← ES.out], rfl, fun j hj => absurd hj (by omega)⟩
  case round =>
    obtain ⟨rfl, k, hgk, hk1, rfl, rfl, rfl, hall⟩ := hrel
    have hs1 := lapSz_pos fs decay (k - 1)
    have hs2 := lapSz_le (fs := fs) h3 (k - 1)
    obtain ⟨q1, q2⟩ := lap_room h1 h2 h3 hall.out
    have HR2 : Hid (1 < lapSz fs decay (k - 1) → lapLo fs decay (k - 1) + 2 * lapSz fs decay (k - 1) ≤ 32766) := q2
    clear q2
    have HEND : Hid (lapSz fs decay (k - 1) = 1 ∨ k = z → ∀ l x : Nat, l = lapLo fs decay (k - 1) + (if sgN (z : Int) then 0 else lapSz fs decay (k - 1)) → x = min (z - k) ((32767 - l) / 2) → ∀ a b c : Int, a = sg (sgN (z : Int)) (k + x) → b = (l + 2 * x : Nat) → c = lapSz fs decay (k - 1) → LapTold fs decay (z : Int) (.returned (.tuple #[.int .i64 a, .int .i64 b, .int .i64 c]))) :=
      fun hend l x hl hx a b c ha hb hc => lapTold_end h1 h2 h3 hk1 (by omega) HZ.out.1 HZ.out.2 hall.out hend hl hx ha hb hc
    by_cases hc : 1 < lapSz fs decay (k - 1) ∧ k < z
    · obtain ⟨n, rfl⟩ : ∃ n, gk = n + 1 := ⟨gk - 1, by omega⟩
      have hroom := HR2.out hc.1
      have e1 : lapLo fs decay (k + 1 - 1) = lapLo fs decay (k - 1) + 2 * lapSz fs decay (k - 1) := by
        rw [show k + 1 - 1 = (k - 1) + 1 by omega, lapLo_succ]
      have e2 : lapSz fs decay (k + 1 - 1) = (2 * lapSz fs decay (k - 1) - 2) * decay / 32768 + 1 := by
        rw [show k + 1 - 1 = (k - 1) + 1 by omega, lapSz_succ]
      have hall2 : Hid (∀ j, j < k + 1 - 1 → 1 < lapSz fs decay j) := fun j hj => by
        by_cases h : j = k - 1
        · rw [h]; exact hc.1
        · exact hall.out j (by omega)
      have E12 : Hid (∃ L' S', lapLo fs decay (k + 1 - 1) = L' ∧ lapSz fs decay (k + 1 - 1) = S') := ⟨_, _, rfl, rfl⟩
      obtain ⟨L', S', hL', hS'⟩ := E12.out
      rw [hL'] at e1
      rw [hS'] at e2
      have HLS : Hid (lapLo fs decay (k + 1 - 1) = L' ∧ lapSz fs decay (k + 1 - 1) = S') := ⟨hL', hS'⟩
      clear HEND HR2 hall hL' hS' E12
      generalize lapSz fs decay (k - 1) = S at *
      generalize lapLo fs decay (k - 1) = L at *
      have ED : Hid (((S : Int) * 2 - 2) * decay / 32768 + 1 = ((2 * S - 2) * decay / 32768 + 1 : Nat)) := cast_next S decay hc.1
      have hd := mul_dec (2 * S - 2) decay (by omega)
      have d0 : 0 ≤ ((S : Int) * 2 - 2) * decay := Int.mul_nonneg (by omega) (by omega)
      have d1 : ((S : Int) * 2 - 2) * decay ≤ 40000 * 16000 := Int.mul_le_mul (by omega) (by omega) (by omega) (by decide)
      have E1 : Hid (L' = L + 2 * S ∧ S' = (2 * S - 2) * decay / 32768 + 1) := ⟨e1, e2⟩
      clear e1 e2
      obtain ⟨hc1, hc2⟩ := hc
      go_wp2
      go_roundg n
      case measure => omega
      case rel => exact ⟨rfl, k + 1, by omega, by omega, by rw [HLS.out.1, E1.out.1]; go_num, by rw [HLS.out.2, E1.out.2, ← ED.out], by go_num, hall2⟩
    · have hend : lapSz fs decay (k - 1) = 1 ∨ k = z := by omega
      have HE2 := HEND.out hend
      clear HEND hall
      rw [HSG.out] at HE2
      simp only [Bool.false_eq_true, if_false] at HE2
      generalize lapSz fs decay (k - 1) = S at *
      generalize lapLo fs decay (k - 1) = L at *
      have HEN : Hid (∀ l x : Nat, l = L + S → x = min (z - k) ((32767 - l) / 2) → ∀ a b c : Int, a = sg false (k + x) → b = (l + 2 * x : Nat) → c = S → LapTold fs decay (z : Int) (.returned (.tuple #[.int .i64 a, .int .i64 b, .int .i64 c]))) := HE2
      clear HE2
      have hLS : L + S ≤ 32767 := by
        by_cases hs1c : 1 < S
        · have := HR2.out hs1c; omega
        · omega
      clear HR2
      by_cases hs1c : 1 < S
      · have hkz : k = z := by omega
        go_wp2
        all_goals
          go_ret3
          refine ⟨HEN.out (L + S) (min (z - k) ((32767 - (L + S)) / 2)) rfl rfl _ _ _ ?_ ?_ rfl, rfl⟩
          · show _ = ((k + min (z - k) ((32767 - (L + S)) / 2) : Nat) : Int)
            omega
          · omega
      · go_wp2
        all_goals
          go_ret3
          refine ⟨HEN.out (L + S) (min (z - k) ((32767 - (L + S)) / 2)) rfl rfl _ _ _ ?_ ?_ rfl, rfl⟩
          · show _ = ((k + min (z - k) ((32767 - (L + S)) / 2) : Nat) : Int)
            omega
          · omega

theorem laplaceE_any (v : Int) (fs decay : Nat) (w : World) (h1 : 256 ≤ fs) (h2 : fs ≤ 28000) (h3 : decay ≤ 16000) (hv : -9223372036854775808 ≤ v ∧ v ≤ 9223372036854775807) :
    Calls Try.prog 31 #[.int .i64 v, .int .i64 fs, .int .i64 decay] w fun e w' => LapTold fs decay v e ∧ w' = w := by
  by_cases h0 : v = 0
  · subst h0
    have HT : Hid (LapTold fs decay 0 (.returned (.tuple #[.int .i64 0, .int .i64 0, .int .i64 fs]))) := lapTold_zero h1 h2
    go_enter Try.func31, Try.ntmps31
    go_wp2
    go_ret3
    exact ⟨HT.out, rfl⟩
  · by_cases hp : 0 < v
    · obtain ⟨z, rfl⟩ : ∃ z : Nat, v = (z : Int) := ⟨v.toNat, by omega⟩
      exact laplace_pos z fs decay w h1 h2 h3 (by omega) hv.2
    · by_cases hb : -32768 ≤ v
      · obtain ⟨z, rfl⟩ : ∃ z : Nat, v = -(z : Int) := ⟨(-v).toNat, by omega⟩
        exact laplace_neg z fs decay w h1 h2 h3 (by omega) (by omega)
      · exact laplace_far v fs decay w h1 h2 h3 ⟨hv.1, by omega⟩

end Go.Proofs.Ytinjkffkkmbioaa
