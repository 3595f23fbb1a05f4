/- The document's own word on what is good. -/
import Derived.Test.YtdbgcbbfnjoebaaPulseS
namespace Go.Proofs.Ytdbgcbbfnjoebaa
open Go.RowKit

theorem rgood_no (a : Option Addr) (n cap : Nat) (w : World) (h : lenB (n : Int) = false) :
    Calls Try.prog 22 #[.slice a n cap] w fun e w' => e = .returned (.bool false) ∧ w' = w := by
  have h0 : ¬ (16 ≤ (n : Int) ∧ (n : Int) ≤ 480 ∧ (n : Int) % 16 = 0) := fun hc => by
    have := decide_eq_true hc
    unfold lenB at h
    rw [h] at this
    cases this
  clear h
  by_cases h1 : (n : Int) < 16
  · clear h0
    go_enter Try.func22, Try.ntmps22
    go_wp2
    go_ret
    exact ⟨rfl, rfl⟩
  · by_cases h2 : (480 : Int) < n
    · clear h0
      go_enter Try.func22, Try.ntmps22
      go_wp2
      go_ret
      exact ⟨rfl, rfl⟩
    · have h3 : (((n : Int) % 16) == 0) = false := beq_eq_false_iff_ne.2 (fun e => h0 ⟨by omega, by omega, e⟩)
      have h4 : ((n : Int).tmod 16 == 0) = false := by rw [Int.tmod_eq_emod_of_nonneg (by omega)]; exact h3
      clear h0
      go_enter Try.func22, Try.ntmps22
      go_wp2
      go_ret
      exact ⟨rfl, rfl⟩

set_option maxRecDepth 100000 in
set_option maxHeartbeats 3200000 in
theorem rgoodp_any (a : Option Addr) (n cap : Nat) (zs : List Int) (w : World) (hz : Zs w a n zs) :
    Calls Try.prog 22 #[.slice a n cap] w fun e w' => e = .returned (.bool (goodL zs)) ∧ w' = w := by
  have hl := hz.len
  cases hb : lenB (n : Int) with
  | false =>
    refine (rgood_no a n cap w hb).mono ?_
    rintro e w' ⟨rfl, rfl⟩
    refine ⟨?_, rfl⟩
    unfold goodL
    rw [hl, hb]
    rfl
  | true =>
    obtain ⟨h1, h2, h3⟩ := of_decide_eq_true hb
    obtain ⟨g, off, rfl, hg, hc⟩ := hz.at_ (by omega)
    obtain ⟨m, hm⟩ : ∃ m, n = 16 * m := ⟨n / 16, by omega⟩
    have HZ : Hid ((∀ i, i < n → w.cell? ⟨g, off + i, none⟩ = some (.int .i64 (zs[i]?.getD 0))) ∧ zs.length = n ∧ n = 16 * m) := ⟨hc, hl, hm⟩
    obtain ⟨G, hG⟩ : ∃ G, goodL zs = G := ⟨_, rfl⟩
    have HG : Hid (blocksB m zs = G) := by
      show _ = _
      rw [← hG]
      unfold goodL
      rw [hl, hb, show n / 16 = m by omega]
      rfl
    rw [hG]
    have hnI : (n : Int) ≤ 480 := h2
    have hnI0 : (16 : Int) ≤ (n : Int) := h1
    have h4 : (((n : Int) % 16) == 0) = true := by rw [h3]; rfl
    have h5 : (((n : Int) % 16) != 0) = false := by rw [h3]; rfl
    have h6 : ((n : Int) < 16) = False := eq_false (by omega)
    have h7 : ((480 : Int) < n) = False := eq_false (by omega)
    clear hz hl hb h1 h2 h3 hg hc hm hG
    go_enter Try.func22, Try.ntmps22
    go_wp2
    go_loop [3] (fun x => ∃ (j o : Nat), j ≤ m ∧ x = .int .i64 o ∧ Hid (o = 16 * j) ∧ Hid (blocksB (m - j) (zs.drop o) = G)) (fun x => n - (intOf x).toNat)
    case atStart => exact ⟨0, 0, Nat.zero_le _, rfl, rfl, HG.out⟩
    case round =>
      clear HG
      obtain ⟨j, o, hj, rfl, HO, HQ⟩ := hrel
      by_cases hlt : j < m
      · obtain ⟨q1, q2, q3⟩ := HZ.out
        have hO := HO.out
        have hs3 : (o : Int) < n := by omega
        have hoI : (o : Int) + 16 ≤ n := by omega
        obtain ⟨X, hX⟩ : ∃ X, (zs.drop o).take 16 = X := ⟨_, rfl⟩
        have hXl : X.length = 16 := by rw [← hX, List.length_take, List.length_drop]; omega
        have HX : Hid (X.length = 16 ∧ ∀ c, c < 16 → X[c]?.getD 0 = zs[o + c]?.getD 0) := ⟨hXl, fun c hc => by rw [← hX, List.getElem?_take_of_lt hc, List.getElem?_drop]⟩
        have HS : Hid ((decide (pulsesN X ≤ 16) && blocksB (m - (j + 1)) (zs.drop (o + 16))) = G) := by
          have := HQ.out
          rw [show m - j = (m - (j + 1)) + 1 by omega] at this
          have e : zs.drop (o + 16) = (zs.drop o).drop 16 := by rw [List.drop_drop]
          show (_ && blocksB _ (zs.drop (o + 16))) = G
          rw [e, ← hX]
          exact this
        have HBAD : Hid (∀ c, c < 16 → ¬ (-16 ≤ X[c]?.getD 0 ∧ X[c]?.getD 0 ≤ 16) → G = false) := fun c hc hx => by
          rw [← HS.out]
          have : decide (pulsesN X ≤ 16) = false := decide_eq_false fun hle => hx (by
            have := pulsesN_mem (at_mem (l := X) (i := c) (by omega))
            unfold absI at this
            split at this <;> omega)
          rw [this]
          rfl
        have HC : Hid (∀ c, c < 16 → w.cell? ⟨g, off + (o + c), none⟩ = some (.int .i64 (X[c]?.getD 0))) := fun c hc => by
          rw [HX.out.2 c hc]
          exact q1 (o + c) (by omega)
        clear q1 q2 q3 hO HQ hX hXl
        go_wp2
        go_loop [4, 5] (fun s x => ∃ (c k : Nat) (t : Int), c ≤ 16 ∧ s = .int .i64 t ∧ x = .int .i64 k ∧ Hid (k = o + c ∧ t = pulsesN (X.take c) ∧ 0 ≤ t ∧ t ≤ 16 * c)) (fun _ x => o + 16 - (intOf x).toNat)
        case atStart => exact ⟨0, o, 0, by omega, rfl, rfl, rfl, rfl, by omega, by omega⟩
        case round =>
          obtain ⟨c, k, t, hc, rfl, rfl, HT⟩ := hrel
          by_cases hlc : c < 16
          · have hcell := HC.out c hlc
            rw [← HT.out.1] at hcell
            have hstep := pulsesN_step (zs := X) (k := c) (by have := HX.out.1; omega)
            have HB := HBAD.out c hlc
            have hkI : (k : Int) < (o : Int) + 16 := by have := HT.out.1; omega
            have hkn : (k : Int) < n := by omega
            have hk0 : k < n := by omega
            generalize X[c]?.getD 0 = x at hcell hstep HB
            by_cases hx : -16 ≤ x ∧ x ≤ 16
            · obtain ⟨hx1, hx2⟩ := hx
              obtain ⟨y, hy⟩ : ∃ y, absI x = y := ⟨_, rfl⟩
              have hyb : 0 ≤ y ∧ y ≤ 16 := by rw [← hy]; unfold absI; split <;> omega
              have HU : Hid (∀ W, Calls Try.prog 43 #[.int .i64 x] W fun e' w' => e' = .returned (.int .i64 y) ∧ w' = W) := fun W => by
                have := rsize_any x W (by omega) (by omega)
                rw [hy] at this
                exact this
              have HN : Hid (k + 1 = o + (c + 1) ∧ t + y = pulsesN (X.take (c + 1)) ∧ 0 ≤ t + y ∧ t + y ≤ 16 * (c + 1 : Nat)) := by
                obtain ⟨t1, t2, t3, t4⟩ := HT.out
                exact ⟨by omega, by rw [hstep, ← t2, hy], by omega, by omega⟩
              have htb : 0 ≤ t := HT.out.2.2.1
              have htb2 : t ≤ 256 := by have := HT.out.2.2.2; omega
              clear hstep hy HB HT
              go_wp2_with (go_at_call 43; refine (HU.out _).mono ?_; rintro e' w' ⟨rfl, rfl⟩)
              go_round
              case rel => exact ⟨c + 1, k + 1, t + y, by omega, by go_num, by go_num, HN.out⟩
              case measure => simp [intOf]; omega
            · have HR : Hid (G = false) := HB hx
              clear hstep HB HT
              by_cases hx1 : x < -16
              · clear hx
                go_wp2
                all_goals
                  go_ret
                  exact ⟨by rw [HR.out]; rfl, rfl⟩
              · have hx2 : 16 < x := by omega
                clear hx
                go_wp2
                all_goals
                  go_ret
                  exact ⟨by rw [HR.out]; rfl, rfl⟩
          · obtain rfl : c = 16 := by omega
            obtain ⟨t1, t2, t3, t4⟩ := HT.out
            rw [List.take_of_length_le (by have := HX.out.1; omega)] at t2
            have hkI : ¬ ((k : Int) < (o : Int) + 16) := by omega
            by_cases hgt : 16 < t
            · have HR : Hid (G = false) := by
                show _ = _
                rw [← HS.out, decide_eq_false (by omega)]
                rfl
              clear t1 t2 t3 t4 HT
              go_wp2
              go_ret
              exact ⟨by rw [HR.out]; rfl, rfl⟩
            · have HNX : Hid (blocksB (m - (j + 1)) (zs.drop (o + 16)) = G) := by
                have := HS.out
                rw [decide_eq_true (show pulsesN X ≤ 16 by omega)] at this
                exact this
              clear t1 t2 t3 t4 HT
              go_wp2
              go_round
              case rel => exact ⟨j + 1, o + 16, by omega, by go_num, by have := HO.out; show _ = _; omega, HNX.out⟩
              case measure => simp [intOf]; omega
      · obtain rfl : j = m := by omega
        have hs1 : ¬ ((o : Int) < n) := by have := HO.out; have := HZ.out.2.2; omega
        have HR : Hid (G = true) := by have := HQ.out; rw [Nat.sub_self] at this; exact this.symm
        go_wp2
        go_ret
        exact ⟨by rw [HR.out]; rfl, rfl⟩

end Go.Proofs.Ytdbgcbbfnjoebaa
