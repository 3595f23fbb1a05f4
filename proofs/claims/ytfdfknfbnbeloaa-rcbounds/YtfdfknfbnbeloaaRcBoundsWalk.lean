/- The law of bounds answers true. -/
import Derived.Test.YtfdfknfbnbeloaaRcJ
namespace Go.Proofs.Ytfdfknfbnbeloaa
open Go.RowKit

set_option maxRecDepth 100000 in
set_option maxHeartbeats 8000000 in
theorem rcBounds.run (g0 : Nat) (a0 : Option Addr) (n0 cap0 : Nat) (bs : List Nat) (a2 : Option Addr) (len cap : Nat) (vs : Nat → ActV) (w : World)
    (h0 : ArgIn w g0 a0 n0 cap0 bs) (k0 : n0 ≤ 2000) (k2 : len ≤ 100) (h2 : ActsAt 3 w a2 len cap vs) :
    Calls Try.prog 5 #[.slice a0 n0 cap0, .slice a2 len cap] w fun e w' => e = .returned (.bool true) ∧ Below w.heap.size w w' := by
  have hb := Below.refl w.heap.size w
  have A0 : Hid (∀ W, Below w.heap.size w W → ArgIn W g0 a0 n0 cap0 bs) := fun W hW => h0.keep hW
  have B0 : Hid (Bytes bs) := h0.bytes.2.1
  have A2 : Hid (0 < len → ∃ b off, a2 = some ⟨b, off, none⟩ ∧ ∀ W, Below w.heap.size w W → ∀ i, i < len → ActCells W b (off + i * 4) (vs i)) := fun hl => by
    obtain ⟨b, off, ha, hlt, hc⟩ := (acts_at h2).2 hl
    exact ⟨b, off, ha, fun W hW i hi => (hc i hi).keep hW (Nat.le_refl _)⟩
  have HS : Hid (∀ p q W, Rd p q bs (initS bs) W → ∃ S, Rd p q bs S W ∧ Inv S ∧ S.cnt ≤ 100) := fun p q W h => ⟨_, h, initS_inv B0.out, by rw [init_cnt]; decide⟩
  clear h0 h2
  go_enter Try.func5, Try.ntmps5
  go_wp2_with (first
    | (go_at_call 9; go_loud (refine (awake_any _).mono ?_; rintro e w1 ⟨rfl, hb1⟩; replace hb := hb.trans (hb1.mono hb.size); clear hb1))
    | (go_at_call 10; go_loud (refine (new_any g0 a0 n0 cap0 bs _ (A0.out _ hb)).mono ?_; rintro e w2 ⟨p, q, rfl, hd0, hq, hp, hb1⟩; obtain ⟨S, hd, hI, hS⟩ := HS.out _ _ _ hd0; clear hd0; have hpq := hp; replace hq := Nat.le_trans hb.size hq; replace hp := Nat.le_trans hq hp; replace hb := hb.trans (hb1.mono hb.size); clear hb1))
    | (go_at_call 11; go_loud (refine (tell_any p q bs S _ hd hI (by omega)).mono ?_; rintro e w4 ⟨rfl, kk, rfl⟩; replace hd := hd.drewN kk; replace hb := Below.drewN hb kk)))
  go_loopw [6, 7] (fun was i W => Below w.heap.size w W ∧ ∃ k : Nat, ∃ s : St, k ≤ len ∧ i = .int .i64 k ∧ was = .int .i64 (tellZ s) ∧ Inv s ∧ s.cnt ≤ 100 + 48 * k ∧ Rd p q bs s W) (fun _ i _ => len - (intOf i).toNat)
  case atStart => exact ⟨hb, 0, S, Nat.zero_le _, rfl, rfl, hI, by omega, hd⟩
  case round =>
    clear hb hd hI hS
    obtain ⟨hb, k, s, hk, rfl, rfl, i1, hcs, hd⟩ := hrel
    by_cases hlt : k < len
    · obtain ⟨b, off, rfl, hcells⟩ := A2.out (by omega)
      have HROW : Hid (∀ W, Below w.heap.size w W → RowAt W (vs k).a (vs k).len ((vs k).q.take (vs k).len)) := fun W hW => (hcells W hW k hlt).row
      obtain ⟨c0, c1, c2, c3, _, hbd, hlen, hnil⟩ := hcells wr hb k hlt
      clear hcells
      generalize vs k = v at *
      generalize v.z 0 = o at *
      have hm := hbd 1 (by decide)
      generalize v.z 1 = m at *
      have hp0 := hd.lt
      have HX : Hid (∀ W' : World, But p (wr.alloc (.cells #[.int .i64 o, .int .i64 m, .int .i64 (v.z 2), .slice v.a v.len v.cap] 36)) W' → W'.cell? ⟨wr.heap.size, 1, none⟩ = some (.int .i64 m) ∧ W'.cell? ⟨wr.heap.size, 3, none⟩ = some (.slice v.a v.len v.cap)) := fun W' hW' =>
        ⟨(hW'.cell (a := ⟨wr.heap.size, 1, none⟩) (by show wr.heap.size ≠ p; omega)).trans (by rw [World.cell?_alloc_new]; rfl), (hW'.cell (a := ⟨wr.heap.size, 3, none⟩) (by show wr.heap.size ≠ p; omega)).trans (by rw [World.cell?_alloc_new]; rfl)⟩
      have HB : Hid (Below w.heap.size w wr) := hb
      have HD : Hid (Rd p q bs s wr) := hd
      replace hb := hb.alloc hb.size (.cells #[.int .i64 o, .int .i64 m, .int .i64 (v.z 2), .slice v.a v.len v.cap] 36)
      replace hd := hd.keep ((Below.refl _ _).alloc (Nat.le_refl _) (.cells #[.int .i64 o, .int .i64 m, .int .i64 (v.z 2), .slice v.a v.len v.cap] 36))
      by_cases ho0 : o = 0
      · subst ho0
        have hrow := HROW.out _ hb
        generalize hZ : v.q.take v.len = Z at *
        clear hZ
        obtain ⟨j1, j2, j3, j4⟩ := symS_inv B0.out i1 Z
        have r1 := symS_cnt bs Z s
        have hl : Z.length = v.len := hrow.1
        have H4 : Hid (goodB Z = false → (symS bs Z s).1 = 0) := fun h => by rw [j4 h]
        have H3 : Hid (goodB Z = true → (symS bs Z s).1 < Z.length) := j3
        clear j3 j4
        generalize hR : symS bs Z s = R at *
        have HR : Hid (∀ W (n c : Nat) xo, Rd p q bs s W → RowAt W xo n Z → n ≤ 9223372036854775807 → Calls Try.prog 12 #[.pointer (some ⟨p, 0, none⟩), .slice xo n c] W fun e w' => e = .returned (.int .i64 R.1) ∧ Rd p q bs R.2 w' ∧ But p W w') := fun W n c xo h1 h2 h3 => by
          rw [← hR]; exact symbol_any p q bs s xo n c Z W h1 i1 (by omega) h2 h3
        clear hR
        have c1 := j1.cnt
        have j5 : ¬ tellZ R.2 < tellZ s := by omega
        cases hg : goodB Z
        · have h5 := H4.out hg
          have HG : Hid (goodB Z = false) := hg
          clear hg
          have h6 : (R.1 : Int) < 1 := by omega
          go_wp2_with (first
            | (go_at_call 12; go_loud (refine (HR.out _ _ _ _ hd hrow hlen).mono ?_; rintro e w3 ⟨rfl, hd', hb3⟩; obtain ⟨x1, x3⟩ := HX.out _ hb3; replace hd := hd'; replace hb := hb.trans (hb3.below hp); have hrow2 := HROW.out _ hb; clear hd' hb3))
            | (go_at_call 27; go_loud (refine (rgood_row Z _ _ _ _ hrow2 hlen).mono ?_; rw [HG.out]; rintro e w' ⟨rfl, rfl⟩))
            | (go_at_call 11; go_loud (refine (tell_any p q bs R.2 _ hd j1 (by omega)).mono ?_; rintro e w4 ⟨rfl, kk, rfl⟩; replace hd := hd.drewN kk; replace hb := Below.drewN hb kk)))
          rw [World.drewN_drewN] at hb hd
          go_roundw
          case rel => exact ⟨hb, k + 1, R.2, by omega, by go_num, rfl, j1, by omega, hd⟩
          case measure => simp [intOf]; omega
        · have h5 := H3.out hg
          have HG : Hid (goodB Z = true) := hg
          clear hg
          have h6 : (R.1 : Int) < v.len := by omega
          go_wp2_with (first
            | (go_at_call 12; go_loud (refine (HR.out _ _ _ _ hd hrow hlen).mono ?_; rintro e w3 ⟨rfl, hd', hb3⟩; obtain ⟨x1, x3⟩ := HX.out _ hb3; replace hd := hd'; replace hb := hb.trans (hb3.below hp); have hrow2 := HROW.out _ hb; clear hd' hb3))
            | (go_at_call 27; go_loud (refine (rgood_row Z _ _ _ _ hrow2 hlen).mono ?_; rw [HG.out]; rintro e w' ⟨rfl, rfl⟩))
            | (go_at_call 11; go_loud (refine (tell_any p q bs R.2 _ hd j1 (by omega)).mono ?_; rintro e w4 ⟨rfl, kk, rfl⟩; replace hd := hd.drewN kk; replace hb := Below.drewN hb kk)))
          rw [World.drewN_drewN] at hb hd
          go_roundw
          case rel => exact ⟨hb, k + 1, R.2, by omega, by go_num, rfl, j1, by omega, hd⟩
          case measure => simp [intOf]; omega
      · have hno0 : (o == 0) = false := beq_eq_false_iff_ne.2 ho0
        by_cases ho2 : o = 2
        · subst ho2
          have hj := bitsS_inv bs i1 m
          have r1 := bitsS_cnt bs m s
          have HR0 : ∀ W, Rd p q bs s W → Calls Try.prog 14 #[.pointer (some ⟨p, 0, none⟩), .int .i64 m] W fun e w' => e = .returned (.int .i64 (bitsS bs m s).1) ∧ Rd p q bs (bitsS bs m s).2 w' ∧ But p W w' := fun W h1 => bits_any p q bs s m W h1 i1 (by omega)
          by_cases hin : 0 ≤ m ∧ m ≤ 24
          · obtain ⟨n, rfl⟩ := Int.eq_ofNat_of_zero_le hin.1
            obtain ⟨j1, j2, j3, _⟩ := hj
            have h5 := j3 hin.1 hin.2
            rw [Int.toNat_natCast] at h5
            have hn24 : n ≤ 24 := by omega
            have hp2 := two_pow_24 n hn24
            have e2 := pow_cast n
            clear j3 hin
            generalize hR : bitsS bs n s = R at *
            have HR : Hid (∀ W, Rd p q bs s W → Calls Try.prog 14 #[.pointer (some ⟨p, 0, none⟩), .int .i64 n] W fun e w' => e = .returned (.int .i64 R.1) ∧ Rd p q bs R.2 w' ∧ But p W w') := HR0
            clear hR HR0
            have c1 := j1.cnt
            have j5 : ¬ tellZ R.2 < tellZ s := by omega
            have h6 : (R.1 : Int) < 2 ^ n := by rw [← e2]; exact Int.ofNat_lt.2 h5
            clear e2 h5
            go_wp2_with (first
              | (go_at_call 14; go_loud (refine (HR.out _ hd).mono ?_; rintro e w3 ⟨rfl, hd', hb3⟩; obtain ⟨x1, x3⟩ := HX.out _ hb3; replace hd := hd'; replace hb := hb.trans (hb3.below hp); clear hd' hb3))
              | (go_at_call 11; go_loud (refine (tell_any p q bs R.2 _ hd j1 (by omega)).mono ?_; rintro e w4 ⟨rfl, kk, rfl⟩; replace hd := hd.drewN kk; replace hb := Below.drewN hb kk)))
            rw [World.drewN_drewN] at hb hd
            go_roundw
            case rel => exact ⟨hb, k + 1, R.2, by omega, by go_num, rfl, j1, by omega, hd⟩
            case measure => simp [intOf]; omega
          · obtain ⟨j1, j2, _, j4⟩ := hj
            have h5 : (bitsS bs m s).1 = 0 := by rw [j4 hin]
            clear j4
            generalize hR : bitsS bs m s = R at *
            have HR : Hid (∀ W, Rd p q bs s W → Calls Try.prog 14 #[.pointer (some ⟨p, 0, none⟩), .int .i64 m] W fun e w' => e = .returned (.int .i64 R.1) ∧ Rd p q bs R.2 w' ∧ But p W w') := HR0
            clear hR HR0
            have c1 := j1.cnt
            have j5 : ¬ tellZ R.2 < tellZ s := by omega
            have h6 : (R.1 : Int) < 1 := by omega
            by_cases hneg : 0 ≤ m
            · have hbig : ¬ m ≤ 24 := by omega
              clear hin
              go_wp2_with (first
                | (go_at_call 14; go_loud (refine (HR.out _ hd).mono ?_; rintro e w3 ⟨rfl, hd', hb3⟩; obtain ⟨x1, x3⟩ := HX.out _ hb3; replace hd := hd'; replace hb := hb.trans (hb3.below hp); clear hd' hb3))
                | (go_at_call 11; go_loud (refine (tell_any p q bs R.2 _ hd j1 (by omega)).mono ?_; rintro e w4 ⟨rfl, kk, rfl⟩; replace hd := hd.drewN kk; replace hb := Below.drewN hb kk)))
              rw [World.drewN_drewN] at hb hd
              go_roundw
              case rel => exact ⟨hb, k + 1, R.2, by omega, by go_num, rfl, j1, by omega, hd⟩
              case measure => simp [intOf]; omega
            · clear hin
              go_wp2_with (first
                | (go_at_call 14; go_loud (refine (HR.out _ hd).mono ?_; rintro e w3 ⟨rfl, hd', hb3⟩; obtain ⟨x1, x3⟩ := HX.out _ hb3; replace hd := hd'; replace hb := hb.trans (hb3.below hp); clear hd' hb3))
                | (go_at_call 11; go_loud (refine (tell_any p q bs R.2 _ hd j1 (by omega)).mono ?_; rintro e w4 ⟨rfl, kk, rfl⟩; replace hd := hd.drewN kk; replace hb := Below.drewN hb kk)))
              rw [World.drewN_drewN] at hb hd
              go_roundw
              case rel => exact ⟨hb, k + 1, R.2, by omega, by go_num, rfl, j1, by omega, hd⟩
              case measure => simp [intOf]; omega
        · have hno2 : (o == 2) = false := beq_eq_false_iff_ne.2 ho2
          by_cases ho3 : o = 3
          · subst ho3
            have hj := uintS_inv B0.out i1 m
            have r1 := uintS_cnt bs m s
            have HR0 : ∀ W, Rd p q bs s W → Calls Try.prog 15 #[.pointer (some ⟨p, 0, none⟩), .int .i64 m] W fun e w' => e = .returned (.int .i64 (uintS bs m s).1) ∧ Rd p q bs (uintS bs m s).2 w' ∧ But p W w' := fun W h1 => uint_any p q bs s m W h1 i1 (by omega)
            by_cases hin : 1 ≤ m ∧ m ≤ 4294967295
            · obtain ⟨j1, j2, j3, _⟩ := hj
              have h5 := j3 hin.1
              obtain ⟨hin1, hin2⟩ := hin
              clear j3
              generalize hR : uintS bs m s = R at *
              have HR : Hid (∀ W, Rd p q bs s W → Calls Try.prog 15 #[.pointer (some ⟨p, 0, none⟩), .int .i64 m] W fun e w' => e = .returned (.int .i64 R.1) ∧ Rd p q bs R.2 w' ∧ But p W w') := HR0
              clear hR HR0
              have c1 := j1.cnt
              have j5 : ¬ tellZ R.2 < tellZ s := by omega
              go_wp2_with (first
                | (go_at_call 15; go_loud (refine (HR.out _ hd).mono ?_; rintro e w3 ⟨rfl, hd', hb3⟩; obtain ⟨x1, x3⟩ := HX.out _ hb3; replace hd := hd'; replace hb := hb.trans (hb3.below hp); clear hd' hb3))
                | (go_at_call 11; go_loud (refine (tell_any p q bs R.2 _ hd j1 (by omega)).mono ?_; rintro e w4 ⟨rfl, kk, rfl⟩; replace hd := hd.drewN kk; replace hb := Below.drewN hb kk)))
              rw [World.drewN_drewN] at hb hd
              go_roundw
              case rel => exact ⟨hb, k + 1, R.2, by omega, by go_num, rfl, j1, by omega, hd⟩
              case measure => simp [intOf]; omega
            · obtain ⟨j1, j2, _, j4⟩ := hj
              have h5 : (uintS bs m s).1 = 0 := by rw [j4 (by omega)]
              clear j4
              generalize hR : uintS bs m s = R at *
              have HR : Hid (∀ W, Rd p q bs s W → Calls Try.prog 15 #[.pointer (some ⟨p, 0, none⟩), .int .i64 m] W fun e w' => e = .returned (.int .i64 R.1) ∧ Rd p q bs R.2 w' ∧ But p W w') := HR0
              clear hR HR0
              have c1 := j1.cnt
              have j5 : ¬ tellZ R.2 < tellZ s := by omega
              have h6 : (R.1 : Int) < 1 := by omega
              by_cases hneg : 1 ≤ m
              · have hbig : ¬ m ≤ 4294967295 := by omega
                clear hin
                go_wp2_with (first
                  | (go_at_call 15; go_loud (refine (HR.out _ hd).mono ?_; rintro e w3 ⟨rfl, hd', hb3⟩; obtain ⟨x1, x3⟩ := HX.out _ hb3; replace hd := hd'; replace hb := hb.trans (hb3.below hp); clear hd' hb3))
                  | (go_at_call 11; go_loud (refine (tell_any p q bs R.2 _ hd j1 (by omega)).mono ?_; rintro e w4 ⟨rfl, kk, rfl⟩; replace hd := hd.drewN kk; replace hb := Below.drewN hb kk)))
                rw [World.drewN_drewN] at hb hd
                go_roundw
                case rel => exact ⟨hb, k + 1, R.2, by omega, by go_num, rfl, j1, by omega, hd⟩
                case measure => simp [intOf]; omega
              · clear hin
                go_wp2_with (first
                  | (go_at_call 15; go_loud (refine (HR.out _ hd).mono ?_; rintro e w3 ⟨rfl, hd', hb3⟩; obtain ⟨x1, x3⟩ := HX.out _ hb3; replace hd := hd'; replace hb := hb.trans (hb3.below hp); clear hd' hb3))
                  | (go_at_call 11; go_loud (refine (tell_any p q bs R.2 _ hd j1 (by omega)).mono ?_; rintro e w4 ⟨rfl, kk, rfl⟩; replace hd := hd.drewN kk; replace hb := Below.drewN hb kk)))
                rw [World.drewN_drewN] at hb hd
                go_roundw
                case rel => exact ⟨hb, k + 1, R.2, by omega, by go_num, rfl, j1, by omega, hd⟩
                case measure => simp [intOf]; omega
          · have hno3 : (o == 3) = false := beq_eq_false_iff_ne.2 ho3
            have j1 := i1
            have c1 := i1.cnt
            clear HX
            go_wp2_with (first
              | (go_at_call 11; go_loud (refine (tell_any p q bs s _ hd j1 (by omega)).mono ?_; rintro e w4 ⟨rfl, kk, rfl⟩; replace hd := hd.drewN kk; replace hb := Below.drewN hb kk)))
            rw [World.drewN_drewN] at hb hd
            go_roundw
            case rel => exact ⟨hb, k + 1, s, by omega, by go_num, rfl, j1, by omega, hd⟩
            case measure => simp [intOf]; omega
    · go_wp2
      go_ret
      exact ⟨rfl, hb⟩

theorem rcBounds.walk (a0 : Option Addr) (n0 cap0 : Nat) (z0 : List Int) (a2 : Option Addr) (len cap : Nat) (vs : Nat → ActV) (w : World)
    (h0 : IsRow .u8 w a0 n0 cap0 z0) (h2 : ActsAt 3 w a2 len cap vs) :
    Calls Try.prog 5 #[.slice a0 n0 cap0, .slice a2 len cap] w fun e w' => e = .returned (.bool true) ∧ Below w.heap.size w w' := by
  by_cases k0 : n0 ≤ 2000
  · by_cases k2 : len ≤ 100
    · obtain ⟨g0, A0, _⟩ := arg_of_row h0 (by omega)
      exact rcBounds.run g0 a0 n0 cap0 _ a2 len cap vs w A0 k0 k2 h2
    · have hb := Below.refl w.heap.size w
      have hl := (acts_at h2).1
      go_enter Try.func5, Try.ntmps5
      go_wp2_with (go_at_call 9; refine (awake_any _).mono ?_; rintro e w1 ⟨rfl, hb1⟩; replace hb := hb.trans (hb1.mono hb.size); clear hb1)
      go_ret
      exact ⟨rfl, hb⟩
  · have hb := Below.refl w.heap.size w
    have hl := row_len h0
    go_enter Try.func5, Try.ntmps5
    go_wp2_with (go_at_call 9; refine (awake_any _).mono ?_; rintro e w1 ⟨rfl, hb1⟩; replace hb := hb.trans (hb1.mono hb.size); clear hb1)
    go_ret
    exact ⟨rfl, hb⟩

end Go.Proofs.Ytfdfknfbnbeloaa
