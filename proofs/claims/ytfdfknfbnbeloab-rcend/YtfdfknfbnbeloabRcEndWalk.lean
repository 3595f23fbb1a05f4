/- The law of noughts put behind answers true. -/
import Derived.Test.YtfdfknfbnbeloabRcZ
import Derived.Deep.RegionHeld3
namespace Go.Proofs.Ytfdfknfbnbeloab
open Go.RowKit

theorem bytes_noughts (n : Nat) : Bytes (List.replicate n 0) := fun i => by
  unfold byteAt
  rcases Nat.lt_or_ge i n with h | h
  · simp [h]
  · rw [List.getElem?_eq_none (by simpa using h)]; show 0 < 256; decide

theorem init_noughts (bs : List Nat) : initS (bs ++ List.replicate 60 0) = initS bs :=
  initS_eq (N := (initS bs).front + 1) (fun i _ => (byteAt_noughts bs 60 i).symm) (Nat.succ_pos _) (Nat.le_succ _)

theorem sym_noughts (bs : List Nat) (z : List Int) (s : St) : symS (bs ++ List.replicate 60 0) z s = symS bs z s :=
  symS_eq (N := (symS bs z s).2.front) (fun i _ => (byteAt_noughts bs 60 i).symm) (Nat.le_refl _)

theorem flag_noughts (bs : List Nat) (n : Int) (s : St) : flagS (bs ++ List.replicate 60 0) n s = flagS bs n s :=
  flagS_eq (N := (flagS bs n s).2.front) (fun i _ => (byteAt_noughts bs 60 i).symm) (Nat.le_refl _)

set_option maxRecDepth 100000 in
set_option maxHeartbeats 4000000 in
theorem rcEnd.run (g0 : Nat) (a0 : Option Addr) (n0 cap0 : Nat) (bs : List Nat) (a2 : Option Addr) (len cap : Nat) (vs : Nat → ActV) (w : World)
    (h0 : ArgIn w g0 a0 n0 cap0 bs) (k0 : n0 ≤ 100) (k2 : len ≤ 60) (h2 : ActsAt 3 w a2 len cap vs) :
    Calls Try.prog 3 #[.slice a0 n0 cap0, .slice a2 len cap] w fun e w' => e = .returned (.bool true) ∧ Below w.heap.size w w' := by
  have hb := Below.refl w.heap.size w
  have A0 : Hid (∀ W, Below w.heap.size w W → ArgIn W g0 a0 n0 cap0 bs) := fun W hW => h0.keep hW
  have B0 : Hid (Bytes bs) := h0.bytes.2.1
  have A2 : Hid (0 < len → ∃ b off, a2 = some ⟨b, off, none⟩ ∧ ∀ W, Below w.heap.size w W → ∀ i, i < len → ActCells W b (off + i * 4) (vs i)) := fun hl => by
    obtain ⟨b, off, ha, hlt, hc⟩ := (acts_at h2).2 hl
    exact ⟨b, off, ha, fun W hW i hi => (hc i hi).keep hW (Nat.le_refl _)⟩
  have HE : Hid (∃ es, bs ++ List.replicate 60 0 = es) := ⟨_, rfl⟩
  obtain ⟨es, hes⟩ := HE.out
  have HES : Hid (bs ++ List.replicate 60 0 = es) := hes
  have BE : Hid (Bytes es) := by show Bytes es; rw [← hes]; exact bytes_append B0.out (bytes_noughts 60)
  have HSY : Hid (∀ z s, symS es z s = symS bs z s) := fun z s => by rw [← hes]; exact sym_noughts bs z s
  have HFL : Hid (∀ n s, flagS es n s = flagS bs n s) := fun n s => by rw [← hes]; exact flag_noughts bs n s
  have HS : Hid (∀ p q p2 q2 W W', Rd p q bs (initS bs) W → Rd p2 q2 es (initS es) W' → ∃ S, Rd p q bs S W ∧ Rd p2 q2 es S W' ∧ Inv S ∧ S.cnt ≤ 100) := fun p q p2 q2 W W' h h' => by
    rw [← hes, init_noughts, hes] at h'
    exact ⟨_, h, h', initS_inv B0.out, by rw [init_cnt]; decide⟩
  have n1' : Hid True := trivial
  have f1 : Hid True := trivial
  clear h0 h2 hes HE
  go_enter Try.func3, Try.ntmps3
  go_wp2_with (first
    | (go_at_call 4; go_loud (refine (awake_any _).mono ?_; rintro e w1 ⟨rfl, hb1⟩; replace hb := hb.trans (hb1.mono hb.size); clear hb1))
    | (go_at_call 5; clear n1'; go_loud (refine (new_any g0 a0 n0 cap0 bs _ (A0.out _ hb)).mono ?_; rintro e w2 ⟨p, q, rfl, hd, hq, hp, hb1⟩; have hqp := hp; replace hq := Nat.le_trans hb.size hq; replace hp := Nat.le_trans hq hp; have hpq := hd.lt; replace hb := hb.trans (hb1.mono hb.size); clear hb1))
    | (at_builtin; clear f1; go_loud (refine wpList_append_bytes _ _ 0 [] a0 n0 cap0 bs (owned_empty _) (((A0.out _ hb).bytes.src (A0.out _ hb).nil).keep ((Below.refl _ _).alloc (Nat.le_refl _) _) (Nat.le_refl _)) (by omega) (by simp) rfl _ _ rfl rfl rfl ?_; intro v w3 hown hbel; rw [Nat.zero_add, List.nil_append] at hown; replace hd := hd.keep (((Below.refl _ _).alloc (Nat.le_refl _) _).trans hbel); have hsz := hb.size; replace hb := (hb.alloc hb.size _).trans (hbel.mono hb.size); replace hbel := ((Below.refl _ _).alloc (Nat.le_refl _) _).trans hbel))
    | (at_builtin; go_loud (refine wpList_append_sixty w2.heap.size v n0 bs hown (by omega) hbel.size rfl _ _ rfl rfl rfl ?_; intro v2 w4 hown2 hbel2; rw [HES.out] at hown2; obtain ⟨r, g, c, rfl, hr1, hr2, hr3, _⟩ := bytes_of_owned BE.out hown2; have H4 : Hid (ArgIn w4 g r (n0 + 60) c es) := ⟨hr2, hr1, by omega⟩; replace hd := hd.below hbel2 hpq (fun _ => Nat.lt_of_le_of_lt hqp hpq); replace hb := hb.trans (hbel2.mono hsz); replace hbel := hbel.trans hbel2; clear hbel2 hown hown2 hr1 hr2 hr3))
    | (go_at_call 5; go_loud (refine (new_any g r (n0 + 60) c es _ H4.out).mono ?_; rintro e w5 ⟨p2, q2, rfl, hd2, hq2, hp2, hb1⟩; replace hd := hd.keep hb1; replace hq2 := Nat.le_trans hbel.size hq2; replace hp2 := Nat.le_trans hq2 hp2; replace hb := hb.trans (hb1.mono hb.size); clear hb1 hbel H4; obtain ⟨S, hdS, hd2S, hI, hS⟩ := HS.out _ _ _ _ _ _ hd hd2; clear hd hd2)))
  go_loopw [7] (fun i W => Below w.heap.size w W ∧ ∃ k : Nat, ∃ s : St, k ≤ len ∧ i = .int .i64 k ∧ Inv s ∧ s.cnt ≤ 100 + 48 * k ∧ Rd p q bs s W ∧ Rd p2 q2 es s W) (fun i _ => len - (intOf i).toNat)
  case atStart => exact ⟨hb, 0, S, Nat.zero_le _, rfl, hI, by omega, hdS, hd2S⟩
  case round =>
    clear hb hdS hd2S hI hS
    obtain ⟨hb, k, s, hk, rfl, i1, hcs, hd, hd2⟩ := hrel
    by_cases hlt : k < len
    · obtain ⟨b, off, rfl, hcells⟩ := A2.out (by omega)
      have hN := (hcells wr hb k hlt).n
      have hM : Hid (∀ W, Below w.heap.size w W → W.cell? ⟨b, off + k * 4 + 2, none⟩ = some (.int .i64 ((vs k).z 2))) := fun W hW => (hcells W hW k hlt).m
      clear hcells
      generalize vs k = v at *
      have hp1 := hd.lt
      have hp3 := hd2.lt
      have y1 : Hid True := trivial
      have y2 : Hid True := trivial
      go_wp2_with (go_at_call 6; go_loud (refine (ricdf_row _ _).mono ?_; rintro e w6 ⟨a6, m6, cap6, rfl, ht6, hx6, hm6, hb6⟩; replace hd := hd.keep hb6; replace hd2 := hd2.keep hb6; replace hb := hb.trans (hb6.mono hb.size); clear hb6))
      generalize icdfL _ = Z at *
      obtain ⟨j1, _, _⟩ := symS_inv B0.out i1 Z
      have r1 := symS_cnt bs Z s
      have hm8 : 0 ≤ bits .and .i64 (v.z 2) 7 ∧ bits .and .i64 (v.z 2) 7 < 8 := by
        have := and_mask_i64 (v.z 2) 3 (by decide)
        have h8 : bits .and .i64 (v.z 2) 7 = v.z 2 % 8 := this
        rw [h8]
        omega
      have hm81 := hm8.1
      have hm82 := hm8.2
      clear hm8
      have HX : Hid (∃ X, symS bs Z s = X) := ⟨_, rfl⟩
      obtain ⟨X, hX⟩ := HX.out
      rw [hX] at j1 r1
      have HXX : Hid (symS bs Z s = X) := hX
      have HXE : Hid (symS es Z s = X) := by show _ = _; rw [HSY.out, hX]
      clear hX HX
      have hM1 := hM.out _ hb.drew
      generalize hq8 : bits .and .i64 (v.z 2) 7 = q8 at *
      have HQ8 : Hid (bits .and .i64 (v.z 2) 7 = q8) := hq8
      have HWR : Hid (IntKind.i64.wrap (1 + q8) = 1 + q8) := by show _ = _; rw [IntKind.wrap_i64]; omega
      obtain ⟨j2, _⟩ := flagS_inv B0.out j1 (1 + q8)
      have r2 := flagS_cnt bs (1 + q8) j1
      have HY : Hid (∃ Y, flagS bs (1 + q8) X.2 = Y) := ⟨_, rfl⟩
      obtain ⟨Y, hY⟩ := HY.out
      rw [hY] at j2 r2
      have HYY : Hid (flagS bs (1 + q8) X.2 = Y) := hY
      have HYE : Hid (flagS es (1 + q8) X.2 = Y) := by show _ = _; rw [HFL.out, hY]
      clear hY HY
      replace hb := hb.drew
      replace hd := hd.drew
      replace hd2 := hd2.drew
      replace ht6 := ht6.drew
      have y3 : Hid True := trivial
      have y5 : Hid True := trivial
      go_region_held3 (fun W => W.cell? ⟨b, off + k * 4 + 2, none⟩ = some (.int .i64 (v.z 2))) (assumption) (first
        | (go_at_call 7; clear y1; go_loud (refine (symbol_any p q bs s a6 m6 cap6 Z _ hd i1 (by omega) ht6 (by omega)).mono ?_; rw [HXX.out]; rintro e w7 ⟨rfl, hd', hb7⟩; replace hd := hd'; replace hd2 := hd2.but hb7 (by omega) (by omega); replace ht6 := ht6.but hb7 (fun b o h h0 => by have := hx6 b o h h0; omega); replace hb := hb.trans (hb7.below hp); clear hd' hb7; have hM2 := hM.out _ hb))
        | (go_at_call 7; clear y2; go_loud (refine (symbol_any p2 q2 es s a6 m6 cap6 Z _ hd2 i1 (by omega) ht6 (by omega)).mono ?_; rw [HXE.out]; rintro e w8 ⟨rfl, hd', hb7⟩; replace hd2 := hd'; replace hd := hd.but hb7 (by omega) (by omega); replace hb := hb.trans (hb7.below (by omega)); clear hd' hb7; have hM3 := hM.out _ hb))
        | (go_at_call 8; clear y3; go_loud ((try rw [HWR.out]); refine (flag_any p q bs X.2 (1 + q8) _ hd j1 (by omega)).mono ?_; rw [HYY.out]; rintro e w9 ⟨rfl, hd', hb7⟩; replace hd := hd'; replace hd2 := hd2.but hb7 (by omega) (by omega); replace hb := hb.trans (hb7.below hp); clear hd' hb7; have hM4 := hM.out _ hb))
        | (go_at_call 8; go_loud ((try rw [HWR.out]); refine (flag_any p2 q2 es X.2 (1 + q8) _ hd2 j1 (by omega)).mono ?_; rw [HYE.out]; rintro e w10 ⟨rfl, hd', hb7⟩; replace hd2 := hd'; replace hd := hd.but hb7 (by omega) (by omega); replace hb := hb.trans (hb7.below (by omega)); clear hd' hb7; have hM5 := hM.out _ hb))
        | (go_at_call 9; clear y5; go_loud (refine (tell_any p q bs Y.2 _ hd j2 (by omega)).mono ?_; rintro e w11 ⟨rfl, kk, rfl⟩; replace hd := hd.drewN kk; replace hd2 := hd2.drewN kk; replace hb := Below.drewN hb kk; have hM6 := hM.out _ hb))
        | (go_at_call 9; go_loud (refine (tell_any p2 q2 es Y.2 _ hd2 j2 (by omega)).mono ?_; rintro e w12 ⟨rfl, kk2, rfl⟩; replace hd := hd.drewN kk2; replace hd2 := hd2.drewN kk2; replace hb := Below.drewN hb kk2; have hM7 := hM.out _ hb)))
      all_goals
        go_wp2
        go_roundw
        rw [World.drewN_drewN] at hb hd hd2
        case rel => exact ⟨hb, k + 1, Y.2, by omega, by go_num, j2, by omega, hd, hd2⟩
        case measure => simp [intOf]; omega
    · go_wp2
      go_ret
      exact ⟨rfl, hb⟩

theorem rcEnd.walk (a0 : Option Addr) (n0 cap0 : Nat) (z0 : List Int) (a2 : Option Addr) (len cap : Nat) (vs : Nat → ActV) (w : World)
    (h0 : IsRow .u8 w a0 n0 cap0 z0) (h2 : ActsAt 3 w a2 len cap vs) :
    Calls Try.prog 3 #[.slice a0 n0 cap0, .slice a2 len cap] w fun e w' => e = .returned (.bool true) ∧ Below w.heap.size w w' := by
  by_cases k0 : n0 ≤ 100
  · by_cases k2 : len ≤ 60
    · obtain ⟨g0, A0, _⟩ := arg_of_row h0 (by omega)
      exact rcEnd.run g0 a0 n0 cap0 _ a2 len cap vs w A0 k0 k2 h2
    · have hb := Below.refl w.heap.size w
      have hl := (acts_at h2).1
      go_enter Try.func3, Try.ntmps3
      go_wp2_with (go_at_call 4; refine (awake_any _).mono ?_; rintro e w1 ⟨rfl, hb1⟩; replace hb := hb.trans (hb1.mono hb.size); clear hb1)
      go_ret
      exact ⟨rfl, hb⟩
  · have hb := Below.refl w.heap.size w
    have hl := row_len h0
    go_enter Try.func3, Try.ntmps3
    go_wp2_with (go_at_call 4; refine (awake_any _).mono ?_; rintro e w1 ⟨rfl, hb1⟩; replace hb := hb.trans (hb1.mono hb.size); clear hb1)
    go_ret
    exact ⟨rfl, hb⟩

end Go.Proofs.Ytfdfknfbnbeloab
