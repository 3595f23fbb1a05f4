/- The law of bounds answers true. -/
import Derived.Test.YtbnkapeahbegaaaSynW
namespace Go.Proofs.Ytbnkapeahbegaaa
open Go.RowKit

theorem bounds_far (a : Option Addr) (len cap : Nat) (w : World) (h6 : 6 < len) (h63 : len ≤ 9223372036854775807) :
    Calls Try.prog 8 #[.slice a len cap] w fun e w' => e = .returned (.bool true) ∧ Below w.heap.size w w' := by
  have h1 : ((6 : Int) < len) = True := eq_true (by omega)
  go_enter Try.func8, Try.ntmps8
  go_wp2_with (go_at_call 9; refine (awake_any _).mono ?_; rintro e w1 ⟨rfl, hB1⟩)
  go_ret
  exact ⟨rfl, hB1⟩

set_option maxRecDepth 100000 in
set_option maxHeartbeats 4000000 in
theorem bounds_near (a : Option Addr) (len cap : Nat) (vs : Nat → PartV) (w : World) (h6 : len ≤ 6) (hps : 0 < len → ∃ b off, a = some ⟨b, off, none⟩ ∧ ∀ i, i < len → PartIn w (vs i) ∧ PartCells w b (off + i * 9) (vs i)) :
    Calls Try.prog 8 #[.slice a len cap] w fun e w' => e = .returned (.bool true) ∧ Below w.heap.size w w' := by
  have h1 : ((6 : Int) < len) = False := eq_false (by omega)
  have HP : Hid (0 < len → ∃ b off, a = some ⟨b, off, none⟩ ∧ ∀ i, i < len → PartIn w (vs i) ∧ PartCells w b (off + i * 9) (vs i)) := hps
  clear hps
  go_enter Try.func8, Try.ntmps8
  go_wp2_with (first
    | (go_at_call 9; refine (awake_any _).mono ?_; rintro e w1 ⟨rfl, hB1⟩)
    | (go_at_call 10; refine (new_is _).mono ?_; rintro e w2 ⟨p, rfl, hp, hv2, hb2⟩; have HB2 : Hid (Below w.heap.size w w2 ∧ Vo p (zeros 320) (zeros 32) w2) := ⟨hB1.trans (hb2.mono hB1.size), hv2⟩; have HPP : Hid (w.heap.size ≤ p) := Nat.le_trans hB1.size hp; clear hb2 hB1 hp hv2))
  go_loopw [4, 5, 6, 7, 8] (fun i _ _ _ _ W => ∃ (k : Nat) (D E : List Int), k ≤ len ∧ i = .int .i64 k ∧ Hid (Below w.heap.size w W ∧ Vo p D E W)) (fun i _ _ _ _ _ => len - (intOf i).toNat)
  case atStart => exact ⟨0, _, _, Nat.zero_le _, rfl, HB2⟩
  case round =>
    clear HB2
    obtain ⟨k, D, E, hk, rfl, HH⟩ := hrel
    by_cases hlt : k < len
    · obtain ⟨b, off, rfl, hall⟩ := HP.out (by omega)
      obtain ⟨hin, hcells⟩ := hall k hlt
      have HIN : Hid (PartIn wr (vs k)) := hin.keep HH.out.1
      obtain ⟨d0, d1, d2, d3, d4, d5, d6, d7, d8⟩ := hcells.keep HH.out.1
      clear hall hin hcells HP
      generalize vs k = v at *
      go_wp2_with (first
        | (go_at_call 11; go_loud (refine (run_part p D E v _ HH.out.2 HIN.out).mono ?_; rintro e w3 ⟨a3, n3, x3, os, D3, E3, rfl, hn3, hz3, hos, hv3, ht3⟩; have HB3 : Hid (Below w.heap.size w w3 ∧ Vo p D3 E3 w3) := ⟨HH.out.1.trans (ht3.below HPP.out HH.out.1.size), hv3⟩; have HOS : Hid (∀ k : Nat, -16777216 ≤ os[k]?.getD 0 ∧ os[k]?.getD 0 ≤ 16777216) := hos; have HZ3 : Hid (Zs w3 a3 n3 os) := hz3; clear hz3 hos hv3 ht3 d0 d1 d2 d3 d4 d5 d6 d7 d8))
        | (go_at_call 13; go_loud (refine (pcm_any a3 n3 n3 os _ HZ3.out (by omega)).mono ?_; rintro e w4 ⟨a4, rfl, hn4, hb4⟩; have HZ4 : Hid (Zs w4 a3 n3 os ∧ Zs w4 a4 n3 (pcmL os)) := ⟨HZ3.out.keep hb4, Zs.of_new hn4 (by rw [pcmL_len]; exact HZ3.out.len)⟩; have HB4 : Hid (Below w.heap.size w w4 ∧ Vo p D3 E3 w4) := ⟨HB3.out.1.trans (hb4.mono HB3.out.1.size), HB3.out.2.keep hb4⟩; clear hn4 hb4 HB3)))
      go_loop [8] (fun x => ∃ j : Nat, j ≤ n3 ∧ x = .int .i64 j) (fun x => n3 - (intOf x).toNat)
      case atStart => exact ⟨0, Nat.zero_le _, rfl⟩
      case round =>
        obtain ⟨j, hj, rfl⟩ := hrel
        by_cases hlj : j < n3
        · obtain ⟨b3, o3, rfl, _, hc3⟩ := HZ4.out.1.at_ (by omega)
          obtain ⟨b4, o4, rfl, _, hc4⟩ := HZ4.out.2.at_ (by omega)
          have hx := hc3 j hlj
          have hy := hc4 j hlj
          have hos := HOS.out j
          rw [pcmL_at (by rw [HZ4.out.1.len]; exact hlj)] at hy
          have hpc := pcmI_in (os[j]?.getD 0)
          generalize pcmI (os[j]?.getD 0) = yv at hy hpc
          generalize os[j]?.getD 0 = xv at hx hos
          have g1 : ((16777216 : Int) < xv) = False := eq_false (by omega)
          have g2 : (xv < (-16777216 : Int)) = False := eq_false (by omega)
          have g3 : ((32767 : Int) < yv) = False := eq_false (by omega)
          have g4 : (yv < (-32768 : Int)) = False := eq_false (by omega)
          clear hc3 hc4 HOS HZ4 HB4 HZ3 hos hpc
          go_wp2
          go_round
          case rel => exact ⟨j + 1, by omega, by go_num⟩
          case measure => simp [intOf]; omega
        · have hlj' : ¬ ((j : Int) < n3) := by omega
          go_wp2
          go_roundw
          case rel => exact ⟨k + 1, D3, E3, by omega, by go_num, HB4⟩
          case measure => simp [intOf]; omega
    · have hlt' : ¬ ((k : Int) < len) := by omega
      go_wp2
      go_ret
      exact ⟨rfl, HH.out.1⟩

theorem synthBounds.walk (a : Option Addr) (len cap : Nat) (vs : Nat → PartV) (w : World) (h : PartsAt w a len cap vs) :
    Calls Try.prog 8 #[.slice a len cap] w fun e w' => e = .returned (.bool true) ∧ Below w.heap.size w w' := by
  obtain ⟨h1, h2⟩ := parts_in h
  rcases Nat.lt_or_ge 6 len with h3 | h3
  · exact bounds_far a len cap w h3 h1
  · exact bounds_near a len cap vs w h3 h2

end Go.Proofs.Ytbnkapeahbegaaa
