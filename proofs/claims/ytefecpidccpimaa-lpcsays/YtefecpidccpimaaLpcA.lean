/- What package lpc's small calls come to: a number clamped, a list clamped, a filter weakened, a filter measured. -/
import Derived.Test.YtefecpidccpimaaLpcN
import Derived.Test.YtefecpidccpimaaNumC
namespace Go.Proofs.Ytefecpidccpimaa
open Go.RowKit

theorem clampNumber_any (a : Int) (w : World) :
    Calls Try.prog 26 #[.int .i64 a] w fun e w' => e = .returned (.int .i64 (c17 a)) ∧ w' = w := by
  go_enter Try.func26, Try.ntmps26
  go_wp2_with (go_at_call 29; refine (clamp_any _ _ _ _).mono ?_; rintro e w' ⟨rfl, rfl⟩)
  go_ret
  exact ⟨rfl, rfl⟩

theorem c17_at {zs : List Int} {j : Nat} (h : j < zs.length) : (zs.map c17)[j]?.getD 0 = c17 (zs[j]?.getD 0) := by
  rw [List.getElem?_map, List.getElem?_eq_getElem h]
  rfl

set_option maxHeartbeats 1000000 in
theorem cclampAll_any (a : Option Addr) (n cap : Nat) (zs : List Int) (w : World) (hz : Zs w a n zs) (hn : n ≤ 1000) :
    Calls Try.prog 28 #[.slice a n cap] w fun e w' => ∃ a', e = .returned (.slice a' n n) ∧ NewRow 2 w.heap.size w' a' (zs.map c17) ∧ Below w.heap.size w w' := by
  have hl := hz.len
  have HZ : Hid (∀ W, Below w.heap.size w W → Zs W a n zs) := fun W hb => hz.keep hb
  have HF : Hid (∀ j, j < n → (zs.map c17)[j]?.getD 0 = c17 (zs[j]?.getD 0)) := fun j hj => c17_at (by omega)
  have HL : Hid ((zs.map c17).length = n) := by show _ = _; rw [List.length_map, hl]
  clear hz hl
  generalize zs.map c17 = f at *
  have hmk := fun W : World => run_make_row' (P := Try.prog) 23 2 (.int .i64 0) 8 Try.underlying23 info_int64 rfl .i64 .i64 n (by omega) (by omega) W
  go_enter Try.func28, Try.ntmps28
  go_wp2
  go_loopw [4, 5, 11] (fun _ _ k W => ∃ m : Nat, m ≤ n ∧ k = .int .i64 m ∧ W.rowIs w.heap.size 2 n (fun j => .int .i64 (if j < m then f[j]?.getD 0 else 0)) ∧ Below w.heap.size w W) (fun _ _ k _ => n - (intOf k).toNat)
  case atStart => exact ⟨0, Nat.zero_le _, rfl, World.rowIs_made w _ _ _, (Below.refl _ _).alloc (Nat.le_refl _) _⟩
  case round =>
    obtain ⟨m, hm, rfl, hrow, hbel⟩ := hrel
    by_cases hlt : m < n
    · have hfz := hrow.frozen m
      obtain ⟨x, hx⟩ : ∃ x, wr.cell? ⟨w.heap.size, m, none⟩ = some x := ⟨_, hrow.cell hlt⟩
      obtain ⟨b, off, rfl, hb, hc⟩ := (HZ.out wr hbel).at_ (by omega)
      have hcm := hc m hlt
      have hfm := HF.out m hlt
      generalize zs[m]?.getD 0 = z at hcm hfm
      have HFm : Hid (c17 z = f[m]?.getD 0) := hfm.symm
      have HR : Hid ((wr.setCell ⟨w.heap.size, m, none⟩ (.int .i64 (f[m]?.getD 0))).rowIs w.heap.size 2 n (fun j => .int .i64 (if j < m + 1 then f[j]?.getD 0 else 0))) := rowIs_step (f := fun j => f[j]?.getD 0) hrow (by omega)
      have HB : Hid (Below w.heap.size w (wr.setCell ⟨w.heap.size, m, none⟩ (.int .i64 (f[m]?.getD 0)))) := hbel.setCell (Nat.le_refl _) _
      clear hrow hbel HF hc HZ hfm
      generalize f[m]?.getD 0 = fm at HFm HR HB
      go_wp2_with (go_at_call 26; refine (clampNumber_any _ _).mono ?_; rw [HFm.out]; rintro e w' ⟨rfl, rfl⟩)
      go_roundw
      case rel => exact ⟨m + 1, by omega, by go_num, HR.out, HB.out⟩
      case measure => simp [intOf]; omega
    · have hm' : m = n := by omega
      subst hm'
      have HR : Hid (NewRow 2 w.heap.size wr (some ⟨w.heap.size, 0, none⟩) f) := NewRow.of_rowIs hrow (Nat.le_refl _) HL.out (fun j hj => by rw [if_pos hj])
      clear hrow HF HZ
      go_wp2
      go_ret
      exact ⟨_, rfl, HR.out, hbel⟩

set_option maxHeartbeats 2000000 in
theorem chirp_any (a : Option Addr) (n cap : Nat) (zs : List Int) (c : Int) (w : World) (hz : Zs w a n zs) (hn : n ≤ 32) :
    Calls Try.prog 13 #[.slice a n cap, .int .i64 c] w fun e w' => ∃ a', e = .returned (.slice a' n n) ∧ NewRow 2 w.heap.size w' a' (chirpL zs c) ∧ Below w.heap.size w w' := by
  have hl := hz.len
  have HZ : Hid (∀ W, Below w.heap.size w W → Zs W a n zs) := fun W hb => hz.keep hb
  have HF : Hid (∀ j, j < n → (chirpL zs c)[j]?.getD 0 = chirpN (clampI c 0 65536) (j + 1) (zs[j]?.getD 0)) := fun j hj => chirpL_at (by omega)
  have HL : Hid ((chirpL zs c).length = n) := by show _ = _; rw [chirpL_len, hl]
  clear hz hl
  generalize chirpL zs c = f at *
  have hmk := fun W : World => run_make_row' (P := Try.prog) 23 2 (.int .i64 0) 8 Try.underlying23 info_int64 rfl .i64 .i64 n (by omega) (by omega) W
  go_enter Try.func13, Try.ntmps13
  go_wp2_with (go_at_call 29; refine (clamp_any _ _ _ _).mono ?_; rintro e w ⟨rfl, rfl⟩)
  generalize clampI c 0 65536 = q at *
  go_loopw [6, 7, 18] (fun _ _ k W => ∃ m : Nat, m ≤ n ∧ k = .int .i64 m ∧ W.rowIs w.heap.size 2 n (fun j => .int .i64 (if j < m then f[j]?.getD 0 else 0)) ∧ Below w.heap.size w W) (fun _ _ k _ => n - (intOf k).toNat)
  case atStart => exact ⟨0, Nat.zero_le _, rfl, World.rowIs_made w _ _ _, (Below.refl _ _).alloc (Nat.le_refl _) _⟩
  case round =>
    obtain ⟨m, hm, rfl, hrow, hbel⟩ := hrel
    by_cases hlt : m < n
    · have hfz := hrow.frozen m
      obtain ⟨x, hx⟩ : ∃ x, wr.cell? ⟨w.heap.size, m, none⟩ = some x := ⟨_, hrow.cell hlt⟩
      obtain ⟨b, off, rfl, hb, hc⟩ := (HZ.out wr hbel).at_ (by omega)
      have hcm := hc m hlt
      have hfm := HF.out m hlt
      generalize zs[m]?.getD 0 = z at hcm hfm
      have HFm : Hid (chirpN q (m + 1) z = f[m]?.getD 0) := hfm.symm
      have HR : Hid ((wr.setCell ⟨w.heap.size, m, none⟩ (.int .i64 (f[m]?.getD 0))).rowIs w.heap.size 2 n (fun j => .int .i64 (if j < m + 1 then f[j]?.getD 0 else 0))) := rowIs_step (f := fun j => f[j]?.getD 0) hrow (by omega)
      have HB : Hid (Below w.heap.size w (wr.setCell ⟨w.heap.size, m, none⟩ (.int .i64 (f[m]?.getD 0)))) := hbel.setCell (Nat.le_refl _) _
      clear hrow hbel HF hc HZ hfm
      generalize f[m]?.getD 0 = fm at HFm HR HB
      go_wp2
      go_loopw [7, 25] (fun v i W => W = wr ∧ ∃ t : Nat, ∃ u : Int, t ≤ m + 1 ∧ i = .int .i64 t ∧ v = .int .i64 u ∧ Hid (u = chirpN q t z)) (fun _ i _ => m + 1 - (intOf i).toNat)
      case atStart => exact ⟨rfl, 0, z, Nat.zero_le _, rfl, rfl, rfl⟩
      case round =>
        obtain ⟨rfl, t, u, ht, rfl, rfl, HU⟩ := hrel
        by_cases htl : t < m + 1
        · have HS : Hid (mulI u q 16 = chirpN q (t + 1) z) := by show _ = _; rw [HU.out]; rfl
          go_wp2_with (go_at_call 25; refine (mul_any _ _ _ _).mono ?_; rw [HS.out]; rintro e w' ⟨rfl, rfl⟩)
          go_roundw
          case rel => exact ⟨trivial, t + 1, _, by omega, by go_num, rfl, rfl⟩
          case measure => simp [intOf]; omega
        · have ht' : t = m + 1 := by omega
          subst ht'
          rw [HFm.out] at HU
          have e := HU.out
          subst e
          go_wp2
          go_roundw
          case rel => exact ⟨m + 1, by omega, by go_num, HR.out, HB.out⟩
          case measure => simp [intOf]; omega
    · have hm' : m = n := by omega
      subst hm'
      have HR : Hid (NewRow 2 w.heap.size wr (some ⟨w.heap.size, 0, none⟩) f) := NewRow.of_rowIs hrow (Nat.le_refl _) HL.out (fun j hj => by rw [if_pos hj])
      clear hrow HF HZ
      go_wp2
      go_ret
      exact ⟨_, rfl, HR.out, hbel⟩

theorem chirp_far (a : Option Addr) (n cap : Nat) (c : Int) (w : World) (hn : 32 < n) :
    Calls Try.prog 13 #[.slice a n cap, .int .i64 c] w fun e w' => e = .returned (.slice none 0 0) ∧ w' = w := by
  have hn' : ((32 : Int) < n) = True := eq_true (by omega)
  go_enter Try.func13, Try.ntmps13
  go_wp2
  go_ret
  exact ⟨rfl, rfl⟩

theorem gain_far (a : Option Addr) (n cap : Nat) (w : World) (hn : 32 < n) :
    Calls Try.prog 14 #[.slice a n cap] w fun e w' => e = .returned (.int .i64 0) ∧ w' = w := by
  have hn' : ((32 : Int) < n) = True := eq_true (by omega)
  go_enter Try.func14, Try.ntmps14
  go_wp2
  go_ret
  exact ⟨rfl, rfl⟩

set_option maxHeartbeats 1000000 in
theorem gain_any (a : Option Addr) (n cap : Nat) (zs : List Int) (w : World) (hz : Zs w a n zs) (hn : n ≤ 32) :
    Calls Try.prog 14 #[.slice a n cap] w fun e w' => e = .returned (.int .i64 (sqrtI (sqL zs n))) ∧ Below w.heap.size w w' := by
  have hl := hz.len
  have HS : Hid (∀ k, sqL zs (k + 1) = sqL zs k + c17 (zs[k]?.getD 0) * c17 (zs[k]?.getD 0)) := fun k => rfl
  have HI : Hid (∀ k : Nat, 16777216 ≤ sqL zs k ∧ sqL zs k ≤ 16777216 + 17179869184 * (k : Int)) := fun k => sqL_in zs k
  have H0 : Hid (sqL zs 0 = 16777216) := rfl
  have HQ : Hid (∀ x, 0 ≤ c17 x * c17 x ∧ c17 x * c17 x ≤ 17179869184) := c17_sq
  have HF : Hid (∀ j, j < n → (zs.map c17)[j]?.getD 0 = c17 (zs[j]?.getD 0)) := fun j hj => c17_at (by omega)
  have HL : Hid ((zs.map c17).length = n) := by show _ = _; rw [List.length_map, hl]
  generalize sqL zs = s at *
  go_enter Try.func14, Try.ntmps14
  go_wp2_with (go_at_call 28; refine (cclampAll_any _ _ _ zs _ hz (by omega)).mono ?_; rintro e w1 ⟨a1, rfl, hn1, hb1⟩)
  have HN : Hid (∀ k W, W = w1.drewN k → Zs W a1 n (zs.map c17)) := fun k W e => by subst e; exact (Zs.of_new hn1 HL.out).drewN k
  have HB : Hid (Below w.heap.size w w1) := hb1
  clear hn1 hb1 hz
  go_loopw [3, 5, 12] (fun q _ k W => (∃ d, W = w1.drewN d) ∧ ∃ m : Nat, ∃ t : Int, m ≤ n ∧ k = .int .i64 m ∧ q = .int .i64 t ∧ Hid (t = s m)) (fun _ _ k _ => n - (intOf k).toNat)
  case atStart => exact ⟨⟨0, rfl⟩, 0, 16777216, Nat.zero_le _, rfl, rfl, H0.out.symm⟩
  case round =>
    obtain ⟨⟨d, rfl⟩, m, t, hm, rfl, rfl, HT⟩ := hrel
    by_cases hlt : m < n
    · obtain ⟨b, off, rfl, hb, hc⟩ := (HN.out d _ rfl).at_ (by omega)
      have hcm := hc m hlt
      rw [HF.out m hlt] at hcm
      have h1 := HS.out m
      have h2 := HI.out m
      have h3 := HQ.out (zs[m]?.getD 0)
      rw [← HT.out] at h1 h2
      generalize c17 (zs[m]?.getD 0) = z at *
      have HP : Hid (t + z * z = s (m + 1)) := h1.symm
      clear hc h1 HN HF HQ HS
      go_wp2
      (try go_quiet (fail))
      all_goals
        go_wp2
        go_roundw
        case rel => exact ⟨⟨_, rfl⟩, m + 1, _, by omega, by go_num, rfl, HP.out⟩
        case measure => simp [intOf]; omega
    · have hm' : m = n := by omega
      subst hm'
      have h2 := HI.out m
      rw [← HT.out] at h2
      clear HS HI HQ HF HN
      go_wp2_with (go_at_call 30; refine (sqrt_any _ _ (by omega)).mono ?_; rintro e w' ⟨rfl, rfl⟩)
      go_ret
      exact ⟨by rw [HT.out]; rfl, below_drewN HB.out d⟩

end Go.Proofs.Ytefecpidccpimaa
