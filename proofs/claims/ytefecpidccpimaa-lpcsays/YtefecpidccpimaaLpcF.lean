/- Frequencies as cosines: what package lpc's call comes to. -/
import Derived.Test.YtefecpidccpimaaLpcE
namespace Go.Proofs.Ytefecpidccpimaa
open Go.RowKit

theorem make_room64 (c : Nat) (hc : c ≤ 1000) (w : World) :
    (Instr.makeSlice 23 (.int .i64 0) (.int .i64 (c : Int))).run Try.prog w = .ok (.slice (some ⟨w.heap.size, 0, none⟩) 0 c) (w.alloc (.cells (madeCells #[.int .i64 0] c) 2)) := by
  obtain ⟨i, hi, hzz⟩ := Option.map_eq_some_iff.1 info_int64
  simp only [Prod.mk.injEq] at hzz
  obtain ⟨hz, hs, hb⟩ := hzz
  have hr := run_make (P := Try.prog) w 23 2 i (.int .i64 0) Try.underlying23 hi hz .i64 .i64 0 c (Int.le_refl _) (by omega) (by rw [hb]; omega) (by omega)
  simp only [Int.toNat_natCast, hs, Nat.mul_one, Int.toNat_zero] at hr
  exact hr

def wavesL (l : List Int) (f : Nat) : List Int := (List.range (l.length / 2)).map fun j => waveZ l (2 * j + f)
theorem wavesL_len (l : List Int) (f : Nat) : (wavesL l f).length = l.length / 2 := by unfold wavesL; rw [List.length_map, List.length_range]
theorem wavesL_at {l : List Int} {f j : Nat} (h : j < l.length / 2) : (wavesL l f)[j]?.getD 0 = 4 * cosI (clampI (l[2 * j + f]?.getD 0) 0 32768) := by
  unfold wavesL
  rw [List.getElem?_map, List.getElem?_range h]
  rfl
theorem wavesL_in (l : List Int) (f : Nat) : ∀ x ∈ wavesL l f, -262148 ≤ x ∧ x ≤ 262148 := fun x hx => by
  obtain ⟨j, _, rfl⟩ := List.mem_map.1 hx
  exact wave_in _

set_option maxHeartbeats 2000000 in
theorem cosines_any (a : Option Addr) (n cap h f : Nat) (zs : List Int) (w : World) (hz : Zs w a n zs) (hn : n = 2 * h) (hh : h ≤ 100) (hf : f ≤ 1) :
    Calls Try.prog 24 #[.slice a n cap, .int .i64 (f : Int)] w fun e w' => ∃ a' c', e = .returned (.slice a' h c') ∧ NewRow 2 w.heap.size w' a' (wavesL zs f) ∧ Below w.heap.size w w' := by
  have hl := hz.len
  have HZ : Hid (∀ W, Below w.heap.size w W → Zs W a n zs) := fun W hb => hz.keep hb
  have HL : Hid ((wavesL zs f).length = h) := by show _ = _; rw [wavesL_len]; omega
  have HV : Hid (∀ j, j < h → 4 * cosI (clampI (zs[2 * j + f]?.getD 0) 0 32768) = (wavesL zs f)[j]?.getD 0) := fun j hj => (wavesL_at (by omega)).symm
  have HN : Hid (n = 2 * h) := hn
  have hq : IntKind.i64.wrap (Int.tdiv (n : Int) 2) = (h : Int) := by
    rw [Int.tdiv_eq_ediv_of_nonneg (by omega), IntKind.wrap_i64]
    omega
  have hq2 : Int.tdiv (n : Int) 2 = (h : Int) := by rw [Int.tdiv_eq_ediv_of_nonneg (by omega)]; omega
  have hmk := make_room64 h (by omega)
  clear hz hl hn
  generalize wavesL zs f = F at *
  go_enter Try.func24, Try.ntmps24
  go_wp2
  have HO : Hid ((w.alloc (.cells (madeCells #[.int .i64 0] h) 2)).ownsRow w.heap.size 2 1 (.slice (some ⟨w.heap.size, 0, none⟩) 0 h) 0 []) := World.ownsRow_made w _ h (Nat.le_refl _) (by unfold maxLen; omega) (by rw [size_madeCells]; simp)
  have HB0 : Hid (Below w.heap.size w (w.alloc (.cells (madeCells #[.int .i64 0] h) 2))) := (Below.refl _ _).alloc (Nat.le_refl _) _
  clear hq hq2 hmk
  go_loopw [5, 6] (fun v i W => ∃ j k : Nat, j ≤ h ∧ i = .int .i64 k ∧ Hid (k = 2 * j + f ∧ W.ownsRow w.heap.size 2 1 v j ((F.take j).map (Value.int .i64)) ∧ Below w.heap.size w W)) (fun _ i _ => n + 2 - (intOf i).toNat)
  case atStart => exact ⟨0, f, Nat.zero_le _, rfl, by omega, HO.out, HB0.out⟩
  case round =>
    clear HO HB0
    obtain ⟨j, k, hj, rfl, HH⟩ := hrel
    have hkn := HN.out
    have hkk := HH.out.1
    have hown := HH.out.2.1
    have hbel := HH.out.2.2
    by_cases hlt : j < h
    · obtain ⟨b, off, rfl, hb, hc⟩ := (HZ.out _ hbel).at_ (by omega)
      have hck := hc k (by omega)
      have hv := HV.out j hlt
      rw [← hkk] at hv
      have hkn' : ((k : Int) < (n : Int)) = True := eq_true (by omega)
      have HM : Hid (n + 2 - (k + 2) < n + 2 - k ∧ k + 2 = 2 * (j + 1) + f) := by show _ ∧ _; omega
      have hk0 : k ≤ 1000 := by omega
      generalize zs[k]?.getD 0 = z at *
      have HT : Hid (F.take j ++ [F[j]?.getD 0] = F.take (j + 1)) := (take_snoc (by rw [HL.out]; exact hlt)).symm
      have hw := wave_in (clampI z 0 32768)
      have HC : Hid (∀ W, Calls Try.prog 37 #[.int .i64 (clampI z 0 32768)] W fun e w' => e = .returned (.int .i64 (cosI (clampI z 0 32768))) ∧ Below W.heap.size W w') := fun W => cos_any _ W
      generalize cosI (clampI z 0 32768) = y at *
      have HY : Hid (4 * y = F[j]?.getD 0) := hv
      have HO2 : Hid (∀ W, Below wr.heap.size wr W → W.ownsRow w.heap.size 2 1 u5 j ((F.take j).map (Value.int .i64)) ∧ Below w.heap.size w W) := fun W hW => ⟨ownsRow_below hown hW, hbel.trans (hW.mono hbel.size)⟩
      clear hc HH HZ HV hkk hkn hv hown hbel HN
      go_wp2_with (first
        | (go_at_call 29; refine (clamp_any _ _ _ _).mono ?_; rintro e w' ⟨rfl, rfl⟩)
        | (go_at_call 37; refine (HC.out _).mono ?_; rintro e w5 ⟨rfl, hb5⟩; obtain ⟨hown5, hbel5⟩ := HO2.out _ hb5; have hs5 := hbel5.size)
        | (at_builtin; refine wpList_append_one 23 2 Try.underlying23 info_int64 w.heap.size _ j (F.take j) _ hown5 (by omega) hs5 rfl _ _ rfl rfl rfl ?_; rw [HY.out, HT.out]; intro v' w6 hown6 hb6; have hb7 := hbel5.trans hb6))
      go_roundw
      case rel => exact ⟨j + 1, k + 2, by omega, by go_num, HM.out.2, hown6, hb7⟩
      case measure => simp [intOf]; exact HM.out.1
    · have hj' : j = h := by omega
      subst hj'
      have hkn' : ((k : Int) < (n : Int)) = False := eq_false (by omega)
      rw [List.take_of_length_le (by rw [HL.out]; omega)] at hown
      obtain ⟨_, a', c', rfl, hnew⟩ := NewRow.of_owned hown
      clear hown HV HZ HH HN
      go_wp2
      go_ret
      exact ⟨_, _, rfl, hnew, hbel⟩

end Go.Proofs.Ytefecpidccpimaa
