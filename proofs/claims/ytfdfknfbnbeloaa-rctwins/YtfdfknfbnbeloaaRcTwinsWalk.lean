/- The law of two readers of the same bytes answers true. -/
import Derived.Test.YtfdfknfbnbeloaaRcJ
import Derived.Deep.RegionHeld3
namespace Go.Proofs.Ytfdfknfbnbeloaa
open Go.RowKit

set_option maxRecDepth 100000 in
set_option maxHeartbeats 4000000 in
theorem rcTwins.run (g0 : Nat) (a0 : Option Addr) (n0 cap0 : Nat) (bs : List Nat) (a2 : Option Addr) (len cap : Nat) (vs : Nat → ActV) (w : World)
    (h0 : ArgIn w g0 a0 n0 cap0 bs) (k0 : n0 ≤ 500) (k2 : len ≤ 60) (h2 : ActsAt 3 w a2 len cap vs) :
    Calls Try.prog 7 #[.slice a0 n0 cap0, .slice a2 len cap] w fun e w' => e = .returned (.bool true) ∧ Below w.heap.size w w' := by
  have hb := Below.refl w.heap.size w
  have A0 : Hid (∀ W, Below w.heap.size w W → ArgIn W g0 a0 n0 cap0 bs) := fun W hW => h0.keep hW
  have B0 : Hid (Bytes bs) := h0.bytes.2.1
  have A2 : Hid (0 < len → ∃ b off, a2 = some ⟨b, off, none⟩ ∧ ∀ W, Below w.heap.size w W → ∀ i, i < len → ActCells W b (off + i * 4) (vs i)) := fun hl => by
    obtain ⟨b, off, ha, hlt, hc⟩ := (acts_at h2).2 hl
    exact ⟨b, off, ha, fun W hW i hi => (hc i hi).keep hW (Nat.le_refl _)⟩
  have n1' : Hid True := trivial
  have n2' : Hid True := trivial
  clear h0 h2
  go_enter Try.func7, Try.ntmps7
  go_wp2_with (first
    | (go_at_call 9; go_loud (refine (awake_any _).mono ?_; rintro e w1 ⟨rfl, hb1⟩; replace hb := hb.trans (hb1.mono hb.size); clear hb1))
    | (at_builtin; go_loud (refine wpList_append_bytes _ _ 0 [] a0 n0 cap0 bs (owned_empty _) (((A0.out _ hb).bytes.src (A0.out _ hb).nil).keep ((Below.refl _ _).alloc (Nat.le_refl _) _) (Nat.le_refl _)) (by omega) (by simp) rfl _ _ rfl rfl rfl ?_; intro v w3 hown hbel; rw [Nat.zero_add, List.nil_append] at hown; obtain ⟨r, g, c, rfl, hr1, hr2, hr3⟩ := own_bytes B0.out hown; have H4 : Hid (ArgIn w3 g r n0 c bs) := ⟨hr1.bytes, hr1.nil, by omega⟩; replace hr2 : 0 < n0 → w.heap.size ≤ g ∧ g < w3.heap.size := (fun h => ⟨Nat.le_trans hb.size (hr2 h).1, (hr2 h).2⟩); have HG : Hid (0 < n0 → w.heap.size ≤ g ∧ g < w3.heap.size) := hr2; have HO : Hid (OwnB w3 r n0 g) := hr3; have hsz := hb.size; replace hb := (hb.alloc hb.size _).trans (hbel.mono hb.size); clear hown hbel hr1 hr2 hr3))
    | (go_at_call 10; clear n1'; go_loud (refine (new_any g r n0 c bs _ H4.out).mono ?_; rintro e w4 ⟨p, q, rfl, hd, hq, hp, hb1⟩; replace HO : Hid (OwnB w4 r n0 g) := HO.out.of_block (fun h => hb1.block g (HG.out h).2); have hq0 := hq; have hp0 := Nat.le_trans hq hp; have hqp := hp; replace hq := Nat.le_trans hb.size hq; replace hp := Nat.le_trans hq hp; have hpq := hd.lt; have hs3 := hb1.size; replace hb := hb.trans (hb1.mono hb.size); clear hb1))
    | (go_at_call 10; clear n2'; go_loud (refine (new_any g0 a0 n0 cap0 bs _ (A0.out _ hb)).mono ?_; rintro e w5 ⟨p2, q2, rfl, hd2, hq2, hp2, hb1⟩; replace HO : Hid (OwnB w5 r n0 g) := HO.out.of_block (fun h => hb1.block g (Nat.lt_of_lt_of_le (HG.out h).2 hs3)); replace hd := hd.keep hb1; replace hp2 := Nat.le_trans hq2 hp2; have hs4 := hb1.size; replace hb := hb.trans (hb1.mono hb.size); clear hb1)))
  have hgg : Hid (∀ W, 0 < n0 → Below w.heap.size w W → ∀ j x, Below w.heap.size w (W.setCell ⟨g, j, none⟩ x)) := fun W h hW j x => hW.setCell (HG.out h).1 x
  have hS : (initS bs).cnt ≤ 100 := by rw [init_cnt]; decide
  have hI : Inv (initS bs) := initS_inv B0.out
  generalize initS bs = S at *
  go_loopw [8] (fun i W => Below w.heap.size w W ∧ ∃ k : Nat, k ≤ n0 ∧ i = .int .i64 k ∧ OwnB W r n0 g ∧ Rd p q bs S W ∧ Rd p2 q2 bs S W) (fun i _ => n0 - (intOf i).toNat)
  case atStart => exact ⟨hb, 0, Nat.zero_le _, rfl, HO.out, hd, hd2⟩
  case round =>
    clear hb hd hd2 HO
    obtain ⟨hb, k, hk, rfl, hown, hd, hd2⟩ := hrel
    by_cases hlt : k < n0
    · obtain ⟨N, f, rfl, hN, hrow, hx⟩ := hown (by omega)
      obtain ⟨x, hx⟩ := hx k hlt
      have hck := hrow.cell (i := k) (by omega)
      rw [hx] at hck
      have hfz := hrow.frozen k
      have hgl := HG.out (by omega)
      have HN : Hid (∀ y : Int, OwnB (wr.setCell ⟨g, k, none⟩ (.int .u8 y)) (some ⟨g, 0, none⟩) n0 g) := fun y _ => by
        obtain ⟨N', f', _, hN', hrow', hx'⟩ := hown (by omega)
        refine ⟨N', _, rfl, hN', hrow'.set k _, fun j hj => ?_⟩
        by_cases hjk : j = k
        · exact ⟨y, if_pos hjk⟩
        · obtain ⟨z, hz⟩ := hx' j hj
          exact ⟨z, by show (if j = k then _ else f' j) = _; rw [if_neg hjk, hz]⟩
      clear hrow hown
      go_wp2
      go_roundw
      case rel => exact ⟨hgg.out _ (by omega) hb _ _, k + 1, by omega, by go_num, HN.out _, hd.of_blocks (Below.heap_setCell _ _ _ _ (by show p ≠ g; omega)) (fun _ => Below.heap_setCell _ _ _ _ (by show q ≠ g; omega)), hd2.of_blocks (Below.heap_setCell _ _ _ _ (by show p2 ≠ g; omega)) (fun _ => Below.heap_setCell _ _ _ _ (by show q2 ≠ g; omega))⟩
      case measure => simp [intOf]; omega
    · clear hown
      go_wp2
      clear hk hlt
      go_loopw [9] (fun i W => Below w.heap.size w W ∧ ∃ k : Nat, ∃ s : St, k ≤ len ∧ i = .int .i64 k ∧ Inv s ∧ s.cnt ≤ 100 + 48 * k ∧ Rd p q bs s W ∧ Rd p2 q2 bs s W) (fun i _ => len - (intOf i).toNat)
      case atStart => exact ⟨hb, 0, S, Nat.zero_le _, rfl, hI, by omega, hd, hd2⟩
      case round =>
        clear hb hd hd2
        obtain ⟨hb, k, s, hk, rfl, i1, hcs, hd, hd2⟩ := hrel
        by_cases hlt : k < len
        · obtain ⟨b, off, rfl, hcells⟩ := A2.out (by omega)
          have hN := (hcells wr hb k hlt).n
          have hM : Hid (∀ W, Below w.heap.size w W → W.cell? ⟨b, off + k * 4 + 2, none⟩ = some (.int .i64 ((vs k).z 2))) := fun W hW => (hcells W hW k hlt).m
          clear hcells
          generalize vs k = v at *
          have hp1 := hd.lt
          have hp3 := hd2.lt
          have y1 : Hid True := trivial
          have y2 : Hid True := trivial
          go_wp2_with (go_at_call 24; go_loud (refine (ricdf_row _ _).mono ?_; rintro e w6 ⟨a6, m6, cap6, rfl, ht6, hx6, hm6, hb6⟩; replace hd := hd.keep hb6; replace hd2 := hd2.keep hb6; replace hb := hb.trans (hb6.mono hb.size); clear hb6))
          generalize icdfL _ = Z at *
          obtain ⟨j1, _, _⟩ := symS_inv B0.out i1 Z
          have r1 := symS_cnt bs Z s
          obtain ⟨j2, _, _⟩ := bitsS_inv bs j1 (bits .and .i64 (v.z 2) 7)
          have r2 := bitsS_cnt bs (bits .and .i64 (v.z 2) 7) (symS bs Z s).2
          replace hb := hb.drew
          replace hd := hd.drew
          replace hd2 := hd2.drew
          replace ht6 := ht6.drew
          have hM1 := hM.out _ hb
          have y3 : Hid True := trivial
          have y4 : Hid True := trivial
          have y5 : Hid True := trivial
          have HX : Hid (∃ X, symS bs Z s = X) := ⟨_, rfl⟩
          obtain ⟨X, hX⟩ := HX.out
          rw [hX] at j1 r1 j2 r2
          have HXX : Hid (symS bs Z s = X) := hX
          clear hX HX
          generalize hY : bitsS bs (bits .and .i64 (v.z 2) 7) X.2 = Y at *
          have HYY : Hid (bitsS bs (bits .and .i64 (v.z 2) 7) X.2 = Y) := hY
          clear hY
          go_region_held3 (fun W => W.cell? ⟨b, off + k * 4 + 2, none⟩ = some (.int .i64 (v.z 2))) (assumption) (first
            | (go_at_call 12; clear y1; go_loud (refine (symbol_any p q bs s a6 m6 cap6 Z _ hd i1 (by omega) ht6 (by omega)).mono ?_; rw [HXX.out]; rintro e w7 ⟨rfl, hd', hb7⟩; replace hd := hd'; replace hd2 := hd2.but hb7 (by omega) (by omega); replace ht6 := ht6.but hb7 (fun b o h h0 => by have := hx6 b o h h0; omega); replace hb := hb.trans (hb7.below hp); clear hd' hb7; have hM2 := hM.out _ hb))
            | (go_at_call 12; clear y2; go_loud (refine (symbol_any p2 q2 bs s a6 m6 cap6 Z _ hd2 i1 (by omega) ht6 (by omega)).mono ?_; rw [HXX.out]; rintro e w8 ⟨rfl, hd', hb7⟩; replace hd2 := hd'; replace hd := hd.but hb7 (by omega) (by omega); replace hb := hb.trans (hb7.below (by omega)); clear hd' hb7; have hM3 := hM.out _ hb))
            | (go_at_call 14; clear y3; go_loud (refine (bits_any p q bs X.2 _ _ hd j1 (by omega)).mono ?_; rw [HYY.out]; rintro e w9 ⟨rfl, hd', hb7⟩; replace hd := hd'; replace hd2 := hd2.but hb7 (by omega) (by omega); replace hb := hb.trans (hb7.below hp); clear hd' hb7; have hM4 := hM.out _ hb))
            | (go_at_call 14; clear y4; go_loud (refine (bits_any p2 q2 bs X.2 _ _ hd2 j1 (by omega)).mono ?_; rw [HYY.out]; rintro e w10 ⟨rfl, hd', hb7⟩; replace hd2 := hd'; replace hd := hd.but hb7 (by omega) (by omega); replace hb := hb.trans (hb7.below (by omega)); clear hd' hb7; have hM5 := hM.out _ hb))
            | (go_at_call 11; clear y5; go_loud (refine (tell_any p q bs Y.2 _ hd j2 (by omega)).mono ?_; rintro e w11 ⟨rfl, kk, rfl⟩; replace hd := hd.drewN kk; replace hd2 := hd2.drewN kk; replace hb := Below.drewN hb kk; have hM6 := hM.out _ hb))
            | (go_at_call 11; go_loud (refine (tell_any p2 q2 bs Y.2 _ hd2 j2 (by omega)).mono ?_; rintro e w12 ⟨rfl, kk2, rfl⟩; replace hd := hd.drewN kk2; replace hd2 := hd2.drewN kk2; replace hb := Below.drewN hb kk2; have hM7 := hM.out _ hb)))
          all_goals
            go_wp2
            go_roundw
            rw [World.drewN_drewN] at hb hd hd2
            case rel => exact ⟨hb, k + 1, Y.2, by omega, by go_num, j2, by omega, hd, hd2⟩
            case measure => simp [intOf]; omega
        · go_wp2
          go_ret
          exact ⟨rfl, hb⟩

theorem rcTwins.walk (a0 : Option Addr) (n0 cap0 : Nat) (z0 : List Int) (a2 : Option Addr) (len cap : Nat) (vs : Nat → ActV) (w : World)
    (h0 : IsRow .u8 w a0 n0 cap0 z0) (h2 : ActsAt 3 w a2 len cap vs) :
    Calls Try.prog 7 #[.slice a0 n0 cap0, .slice a2 len cap] w fun e w' => e = .returned (.bool true) ∧ Below w.heap.size w w' := by
  by_cases k0 : n0 ≤ 500
  · by_cases k2 : len ≤ 60
    · obtain ⟨g0, A0, _⟩ := arg_of_row h0 (by omega)
      exact rcTwins.run g0 a0 n0 cap0 _ a2 len cap vs w A0 k0 k2 h2
    · have hb := Below.refl w.heap.size w
      have hl := (acts_at h2).1
      go_enter Try.func7, Try.ntmps7
      go_wp2_with (go_at_call 9; refine (awake_any _).mono ?_; rintro e w1 ⟨rfl, hb1⟩; replace hb := hb.trans (hb1.mono hb.size); clear hb1)
      go_ret
      exact ⟨rfl, hb⟩
  · have hb := Below.refl w.heap.size w
    have hl := row_len h0
    go_enter Try.func7, Try.ntmps7
    go_wp2_with (go_at_call 9; refine (awake_any _).mono ?_; rintro e w1 ⟨rfl, hb1⟩; replace hb := hb.trans (hb1.mono hb.size); clear hb1)
    go_ret
    exact ⟨rfl, hb⟩

end Go.Proofs.Ytfdfknfbnbeloaa
