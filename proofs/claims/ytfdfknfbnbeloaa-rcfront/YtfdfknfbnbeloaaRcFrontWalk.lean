/- The law of bytes put behind answers true. -/
import Derived.Test.YtfdfknfbnbeloaaRcJ
namespace Go.Proofs.Ytfdfknfbnbeloaa
open Go.RowKit

set_option maxRecDepth 100000 in
set_option maxHeartbeats 4000000 in
theorem rcFront.run (g0 g1 : Nat) (a0 : Option Addr) (n0 cap0 : Nat) (bs : List Nat) (a1 : Option Addr) (n1 cap1 : Nat) (cs : List Nat) (a2 : Option Addr) (len cap : Nat) (vs : Nat → ActV) (w : World)
    (h0 : ArgIn w g0 a0 n0 cap0 bs) (h1 : ArgIn w g1 a1 n1 cap1 cs) (k0 : n0 ≤ 500) (k1 : n1 ≤ 500) (k2 : len ≤ 50) (h2 : ActsAt 3 w a2 len cap vs) :
    Calls Try.prog 6 #[.slice a0 n0 cap0, .slice a1 n1 cap1, .slice a2 len cap] w fun e w' => e = .returned (.bool true) ∧ Below w.heap.size w w' := by
  have hb := Below.refl w.heap.size w
  have A0 : Hid (∀ W, Below w.heap.size w W → ArgIn W g0 a0 n0 cap0 bs) := fun W hW => ⟨h0.bytes.of_block (fun hn => hW.block g0 (h0.bytes.lt hn)), h0.nil, h0.size⟩
  have A1 : Hid (∀ W, Below w.heap.size w W → ArgIn W g1 a1 n1 cap1 cs) := fun W hW => ⟨h1.bytes.of_block (fun hn => hW.block g1 (h1.bytes.lt hn)), h1.nil, h1.size⟩
  have B0 : Hid (Bytes bs) := h0.bytes.2.1
  have B1 : Hid (Bytes cs) := h1.bytes.2.1
  have L0 : Hid (bs.length = n0) := h0.bytes.1
  have A2 : Hid (0 < len → ∃ b off, a2 = some ⟨b, off, none⟩ ∧ ∀ W, Below w.heap.size w W → ∀ i, i < len → ActCells W b (off + i * 4) (vs i)) := fun hl => by
    obtain ⟨b, off, ha, hlt, hc⟩ := (acts_at h2).2 hl
    exact ⟨b, off, ha, fun W hW i hi => (hc i hi).keep hW (Nat.le_refl _)⟩
  have n1' : Hid True := trivial
  have n2' : Hid True := trivial
  have f1 : Hid True := trivial
  have f2 : Hid True := trivial
  clear h0 h1 h2
  go_enter Try.func6, Try.ntmps6
  go_wp2_with (first
    | (go_at_call 9; go_loud (refine (awake_any _).mono ?_; rintro e w1 ⟨rfl, hb1⟩; replace hb := hb.trans (hb1.mono hb.size); clear hb1))
    | (go_at_call 10; clear n1'; go_loud (refine (new_any g0 a0 n0 cap0 bs _ (A0.out _ hb)).mono ?_; rintro e w2 ⟨p, q, rfl, hd, hq, hp, hb1⟩; have hqp := hp; replace hq := Nat.le_trans hb.size hq; replace hp := Nat.le_trans hq hp; have hpq := hd.lt; replace hb := hb.trans (hb1.mono hb.size); clear hb1))
    | (at_builtin; clear f1; go_loud (refine wpList_append_bytes _ _ 0 [] a0 n0 cap0 bs (owned_empty _) (((A0.out _ hb).bytes.src (A0.out _ hb).nil).keep ((Below.refl _ _).alloc (Nat.le_refl _) _) (Nat.le_refl _)) (by omega) (by simp) rfl _ _ rfl rfl rfl ?_; intro v w3 hown hbel; rw [Nat.zero_add, List.nil_append] at hown; replace hd := hd.keep (((Below.refl _ _).alloc (Nat.le_refl _) _).trans hbel); have hsz := hb.size; replace hb := (hb.alloc hb.size _).trans (hbel.mono hb.size); replace hbel := ((Below.refl _ _).alloc (Nat.le_refl _) _).trans hbel))
    | (at_builtin; clear f2; go_loud (refine wpList_append_bytes w2.heap.size v n0 bs a1 n1 cap1 cs hown ((A1.out _ hb).bytes.src (A1.out _ hb).nil) (by omega) hbel.size rfl _ _ rfl rfl rfl ?_; intro v2 w4 hown2 hbel2; obtain ⟨r, g, c, rfl, hr1, hr2, hr3, _⟩ := bytes_of_owned (bytes_append B0.out B1.out) hown2; have H4 : Hid (ArgIn w4 g r (n0 + n1) c (bs ++ cs)) := ⟨hr2, hr1, by omega⟩; replace hd := hd.below hbel2 hpq (fun _ => Nat.lt_of_le_of_lt hqp hpq); replace hb := hb.trans (hbel2.mono hsz); replace hbel := hbel.trans hbel2; clear hbel2 hown hown2 hr1 hr2 hr3))
    | (go_at_call 10; clear n2'; go_loud (refine (new_any g r (n0 + n1) c (bs ++ cs) _ H4.out).mono ?_; rintro e w5 ⟨p2, q2, rfl, hd2, hq2, hp2, hb1⟩; replace hd := hd.keep hb1; replace hq2 := Nat.le_trans hbel.size hq2; replace hp2 := Nat.le_trans hq2 hp2; replace hb := hb.trans (hb1.mono hb.size); clear hb1 hbel H4)))
  have HS : Hid (Side bs (initS bs) (initS (bs ++ cs))) := Side.start B0.out B1.out
  have hc1 : Hid ((initS bs).cnt ≤ 100) := by show _ ≤ _; rw [init_cnt]; decide
  have hc2 : Hid ((initS (bs ++ cs)).cnt ≤ 100) := by show _ ≤ _; rw [init_cnt]; decide
  go_loopw [9] (fun i W => Below w.heap.size w W ∧ ∃ k : Nat, ∃ s t : St, k ≤ len ∧ i = .int .i64 k ∧ Side bs s t ∧ s.cnt ≤ 100 + 24 * k ∧ t.cnt ≤ 100 + 24 * k ∧ Rd p q bs s W ∧ Rd p2 q2 (bs ++ cs) t W) (fun i _ => len - (intOf i).toNat)
  case atStart => exact ⟨hb, 0, _, _, Nat.zero_le _, rfl, HS.out, hc1.out, hc2.out, hd, hd2⟩
  case round =>
    clear hb hd hd2 HS hc1 hc2
    obtain ⟨hb, k, s, t, hk, rfl, hside, hcs, hct, hd, hd2⟩ := hrel
    have i1 := hside.one
    have i2 := hside.two
    have b1 := i1.tell
    have b2 := i1.cnt
    by_cases hlt : k < len
    · obtain ⟨b, off, rfl, hcells⟩ := A2.out (by omega)
      have hN := (hcells wr hb k hlt).n
      have HSide : Hid (Side bs s t) := hside
      clear hside hcells
      generalize vs k = v at *
      have hp1 := hd.lt
      have hp3 := hd2.lt
      have y1 : Hid True := trivial
      have y2 : Hid True := trivial
      go_wp2_with (go_at_call 24; go_loud (refine (ricdf_row _ _).mono ?_; rintro e w6 ⟨a6, m6, cap6, rfl, ht6, hx6, hm6, hb6⟩; replace hd := hd.keep hb6; replace hd2 := hd2.keep hb6; replace hb := hb.trans (hb6.mono hb.size); clear hb6))
      generalize icdfL _ = Z at *
      obtain ⟨j1, _, _⟩ := symS_inv B0.out i1 Z
      have r1 := symS_cnt bs Z s
      by_cases hT : tellZ (symS bs Z s).2 ≤ 8 * (bs.length : Int) - 32
      · obtain ⟨hts, hq2', hs'⟩ := Side.sym B0.out HSide.out Z hT
        subst hts
        have HQ : Hid (symS (bs ++ cs) Z t = symS bs Z t) := hq2'
        rw [L0.out] at hT
        have hT2 : ¬ 8 * (n0 : Int) - 32 < tellZ (symS bs Z t).2 := by omega
        have H4 : Hid (Side bs (symS bs Z t).2 (symS bs Z t).2) := hs'
        clear hq2' hT hs'
        generalize hR : symS bs Z t = R at *
        have HR : Hid (symS bs Z t = R) := hR
        clear hR
        have c1 := j1.cnt
        go_wp2_with (first
          | (go_at_call 12; clear y1; go_loud (refine (symbol_any p q bs t a6 m6 cap6 Z _ hd i1 (by omega) ht6 (by omega)).mono ?_; rw [HR.out]; rintro e w7 ⟨rfl, hd', hb7⟩; replace hd := hd'; replace hd2 := hd2.but hb7 (by omega) (by omega); replace ht6 := ht6.but hb7 (fun b o h h0 => by have := hx6 b o h h0; omega); replace hb := hb.trans (hb7.below hp); clear hd' hb7))
          | (go_at_call 12; clear y2; go_loud (refine (symbol_any p2 q2 (bs ++ cs) t a6 m6 cap6 Z _ hd2 i1 (by omega) ht6 (by omega)).mono ?_; rw [HQ.out]; rintro e w8 ⟨rfl, hd', hb8⟩; replace hd2 := hd'; replace hd := hd.but hb8 (by omega) (by omega); replace hb := hb.trans (hb8.below (Nat.le_trans hsz hp2)); clear hd' hb8))
          | (go_at_call 11; go_loud (refine (tell_any p q bs R.2 _ hd j1 (by omega)).mono ?_; rintro e w9 ⟨rfl, kk, rfl⟩; replace hd := hd.drewN kk; replace hd2 := hd2.drewN kk; replace hb := Below.drewN hb kk)))
        go_roundw
        case rel => exact ⟨hb, k + 1, R.2, R.2, by omega, by go_num, H4.out, by omega, by omega, hd, hd2⟩
        case measure => simp [intOf]; omega
      · rw [L0.out] at hT
        have hT2 : 8 * (n0 : Int) - 32 < tellZ (symS bs Z s).2 := by omega
        clear hT
        generalize hR : symS bs Z s = R at *
        have HR : Hid (symS bs Z s = R) := hR
        clear hR
        have c1 := j1.cnt
        go_wp2_with (first
          | (go_at_call 12; clear y1; go_loud (refine (symbol_any p q bs s a6 m6 cap6 Z _ hd i1 (by omega) ht6 (by omega)).mono ?_; rw [HR.out]; rintro e w7 ⟨rfl, hd', hb7⟩; replace hd := hd'; replace hd2 := hd2.but hb7 (by omega) (by omega); replace ht6 := ht6.but hb7 (fun b o h h0 => by have := hx6 b o h h0; omega); replace hb := hb.trans (hb7.below hp); clear hd' hb7))
          | (go_at_call 12; clear y2; go_loud (refine (symbol_any p2 q2 (bs ++ cs) t a6 m6 cap6 Z _ hd2 i2 (by omega) ht6 (by omega)).mono ?_; rintro e w8 ⟨rfl, hd', hb8⟩; replace hd2 := hd'; replace hd := hd.but hb8 (by omega) (by omega); replace hb := hb.trans (hb8.below (Nat.le_trans hsz hp2)); clear hd' hb8))
          | (go_at_call 11; go_loud (refine (tell_any p q bs R.2 _ hd j1 (by omega)).mono ?_; rintro e w9 ⟨rfl, kk, rfl⟩; replace hd := hd.drewN kk; replace hd2 := hd2.drewN kk; replace hb := Below.drewN hb kk)))
        go_ret
        exact ⟨rfl, hb⟩
    · have hte := hside.tell
      have HTE : Hid (tellZ s = tellZ t) := hte
      have z1 : Hid True := trivial
      clear hside hte
      go_wp2_with (first
        | (go_at_call 11; clear z1; go_loud (refine (tell_any p q bs s _ hd i1 (by omega)).mono ?_; rw [HTE.out]; rintro e w9 ⟨rfl, kk, rfl⟩; replace hd := hd.drewN kk; replace hd2 := hd2.drewN kk; replace hb := Below.drewN hb kk))
        | (go_at_call 11; go_loud (refine (tell_any p2 q2 (bs ++ cs) t _ hd2 i2 (by omega)).mono ?_; rintro e w9 ⟨rfl, kk2, rfl⟩; replace hb := Below.drewN hb kk2)))
      go_ret
      exact ⟨rfl, by rw [← World.drewN_drewN]; exact hb⟩

theorem rcFront.walk (a0 : Option Addr) (n0 cap0 : Nat) (z0 : List Int) (a1 : Option Addr) (n1 cap1 : Nat) (z1 : List Int) (a2 : Option Addr) (len cap : Nat) (vs : Nat → ActV) (w : World)
    (h0 : IsRow .u8 w a0 n0 cap0 z0) (h1 : IsRow .u8 w a1 n1 cap1 z1) (h2 : ActsAt 3 w a2 len cap vs) :
    Calls Try.prog 6 #[.slice a0 n0 cap0, .slice a1 n1 cap1, .slice a2 len cap] w fun e w' => e = .returned (.bool true) ∧ Below w.heap.size w w' := by
  by_cases k0 : n0 ≤ 500
  · by_cases k1 : n1 ≤ 500
    · by_cases k2 : len ≤ 50
      · obtain ⟨g0, A0, _⟩ := arg_of_row h0 (by omega)
        obtain ⟨g1, A1, _⟩ := arg_of_row h1 (by omega)
        exact rcFront.run g0 g1 a0 n0 cap0 _ a1 n1 cap1 _ a2 len cap vs w A0 A1 k0 k1 k2 h2
      · have hb := Below.refl w.heap.size w
        have hl := (acts_at h2).1
        go_enter Try.func6, Try.ntmps6
        go_wp2_with (go_at_call 9; refine (awake_any _).mono ?_; rintro e w1 ⟨rfl, hb1⟩; replace hb := hb.trans (hb1.mono hb.size); clear hb1)
        go_ret
        exact ⟨rfl, hb⟩
    · have hb := Below.refl w.heap.size w
      have hl := row_len h1
      go_enter Try.func6, Try.ntmps6
      go_wp2_with (go_at_call 9; refine (awake_any _).mono ?_; rintro e w1 ⟨rfl, hb1⟩; replace hb := hb.trans (hb1.mono hb.size); clear hb1)
      go_ret
      exact ⟨rfl, hb⟩
  · have hb := Below.refl w.heap.size w
    have hl := row_len h0
    go_enter Try.func6, Try.ntmps6
    go_wp2_with (go_at_call 9; refine (awake_any _).mono ?_; rintro e w1 ⟨rfl, hb1⟩; replace hb := hb.trans (hb1.mono hb.size); clear hb1)
    go_ret
    exact ⟨rfl, hb⟩

end Go.Proofs.Ytfdfknfbnbeloaa
