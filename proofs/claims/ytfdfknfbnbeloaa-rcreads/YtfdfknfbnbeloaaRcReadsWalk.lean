/- The law of the reader, of any bytes and any calls, answers true. -/
import Derived.Test.YtfdfknfbnbeloaaRcJ
import Derived.Test.YtfdfknfbnbeloaaActsS
import Derived.Deep.RegionHeld3
namespace Go.Proofs.Ytfdfknfbnbeloaa
open Go.RowKit

set_option maxRecDepth 100000 in
set_option maxHeartbeats 16000000 in
theorem rcReads.run (g0 : Nat) (a0 : Option Addr) (n0 cap0 : Nat) (bs : List Nat) (a2 : Option Addr) (len cap : Nat) (vs : Nat → ActV) (w : World)
    (h0 : ArgIn w g0 a0 n0 cap0 bs) (k0 : n0 ≤ 2000) (k2 : len ≤ 100) (h2 : ActsAt 3 w a2 len cap vs) (s2 : ∀ i, i < len → (vs i).cap * 8 ≤ 140737488351232) :
    Calls Try.prog 4 #[.slice a0 n0 cap0, .slice a2 len cap] w fun e w' => e = .returned (.bool true) ∧ Below w.heap.size w w' := by
  have hb := Below.refl w.heap.size w
  have A0 : Hid (∀ W, Below w.heap.size w W → ArgIn W g0 a0 n0 cap0 bs) := fun W hW => h0.keep hW
  have hg0 : 0 < n0 → g0 < w.heap.size := fun h => h0.bytes.lt h
  have B0 : Hid (Bytes bs) := h0.bytes.2.1
  have A2 : Hid (0 < len → ∃ b off, a2 = some ⟨b, off, none⟩ ∧ ∀ W, Below w.heap.size w W → ∀ i, i < len → ActCells W b (off + i * 4) (vs i)) := fun hl => by
    obtain ⟨b, off, ha, hlt, hc⟩ := (acts_at h2).2 hl
    exact ⟨b, off, ha, fun W hW i hi => (hc i hi).keep hW (Nat.le_refl _)⟩
  have HS : Hid (∀ p q r g W W', Rd p q bs (initS bs) W → Rr r g bs (initS bs) W' → ∃ S, Rd p q bs S W ∧ Rr r g bs S W' ∧ Inv S ∧ S.cnt ≤ 100) := fun p q r g W W' h h' => ⟨_, h, h', initS_inv B0.out, by rw [init_cnt]; decide⟩
  have HC : Hid (∀ i, i < len → (vs i).cap * 8 ≤ 140737488351232) := s2
  have HGG : Hid (0 < n0 → g0 < w.heap.size) := hg0
  clear h0 h2 s2 hg0
  go_enter Try.func4, Try.ntmps4
  go_wp2_with (first
    | (go_at_call 9; go_loud (refine (awake_any _).mono ?_; rintro e w1 ⟨rfl, hb1⟩; replace hb := hb.trans (hb1.mono hb.size); clear hb1))
    | (at_builtin; go_loud (refine wpList_append_bytes _ _ 0 [] a0 n0 cap0 bs (owned_empty _) (((A0.out _ hb).bytes.src (A0.out _ hb).nil).keep ((Below.refl _ _).alloc (Nat.le_refl _) _) (Nat.le_refl _)) (by omega) (by simp) rfl _ _ rfl rfl rfl ?_; intro v w3 hown hbel; rw [Nat.zero_add, List.nil_append] at hown; obtain ⟨r0, gc, c, rfl, hr1, hr2, hr3⟩ := own_bytes B0.out hown; have H4 : Hid (ArgIn w3 gc r0 n0 c bs) := ⟨hr1.bytes, hr1.nil, by omega⟩; replace hb := (hb.alloc hb.size _).trans (hbel.mono hb.size); clear hown hbel hr1 hr2 hr3))
    | (go_at_call 10; go_loud (refine (new_any gc r0 n0 c bs _ H4.out).mono ?_; rintro e w4 ⟨p, q, rfl, hd0, hq, hp, hb1⟩; have hqp := hp; replace hq := Nat.le_trans hb.size hq; replace hp := Nat.le_trans hq hp; have hp4 := hd0.lt; replace hb := hb.trans (hb1.mono hb.size); clear hb1))
    | (go_at_call 18; go_loud (refine (rnew_any g0 a0 n0 cap0 bs _ (A0.out _ hb)).mono ?_; rintro e w5 ⟨r, rfl, hr0, hrp, hb1⟩; replace hd0 := hd0.keep hb1; have hs4 := hb.size; replace hb := hb.trans (hb1.mono hb.size); clear hb1; obtain ⟨S, hd, hr, hI, hS⟩ := HS.out _ _ _ _ _ _ hd0 hr0; clear hd0 hr0)))
  have hrw : w.heap.size ≤ r := Nat.le_trans hs4 hrp
  have hpr : p < r := Nat.lt_of_lt_of_le hp4 hrp
  have hgp : homeOf n0 g0 r ≠ p := by
    unfold homeOf
    split
    · rename_i h; have := HGG.out h; omega
    · omega
  generalize homeOf n0 g0 r = gg at *
  go_loopw [7] (fun i W => Below w.heap.size w W ∧ ∃ k : Nat, ∃ s : St, k ≤ len ∧ i = .int .i64 k ∧ Inv s ∧ s.cnt ≤ 100 + 48 * k ∧ Rd p q bs s W ∧ Rr r gg bs s W) (fun i _ => len - (intOf i).toNat)
  case atStart => exact ⟨hb, 0, S, Nat.zero_le _, rfl, hI, by omega, hd, hr⟩
  case round =>
    clear hb hd hr hI hS
    obtain ⟨hb, k, s, hk, rfl, i1, hcs, hd, hr⟩ := hrel
    by_cases hlt : k < len
    · obtain ⟨b, off, rfl, hcells⟩ := A2.out (by omega)
      have HROW : Hid (∀ W, Below w.heap.size w W → RowAt W (vs k).a (vs k).len ((vs k).q.take (vs k).len)) := fun W hW => (hcells W hW k hlt).row
      have HRB : Hid (∀ b' o', (vs k).a = some ⟨b', o', none⟩ → 0 < (vs k).len → b' < w.heap.size) := fun b' o' h1 h2 => by
        obtain ⟨b2, o2, h3, h4, _⟩ := (hcells w (Below.refl _ _) k hlt).row.2 h2
        rw [h1] at h3
        cases h3
        exact h4
      obtain ⟨c0, c1, c2, c3, _, hbd, hlen, hnil, hlc⟩ := hcells wr hb k hlt
      have hsz := HC.out k hlt
      clear hcells
      generalize vs k = v at *
      generalize v.z 0 = o at *
      have hm := hbd 1 (by decide)
      generalize v.z 1 = m at *
      generalize v.z 2 = m2 at *
      clear hbd
      have hp0 := hd.lt
      have hr0 := hr.lt
      have HX : Hid (∀ W W' : World, ∀ t, t ≠ wr.heap.size → But t W W' → ∀ i, W'.cell? ⟨wr.heap.size, i, none⟩ = W.cell? ⟨wr.heap.size, i, none⟩) := fun W W' t ht hW' i => hW'.cell (a := ⟨wr.heap.size, i, none⟩) (fun h => ht h.symm)
      replace hb := hb.alloc hb.size (.cells #[.int .i64 o, .int .i64 m, .int .i64 m2, .slice v.a v.len v.cap] 36)
      replace hd := hd.keep ((Below.refl _ _).alloc (Nat.le_refl _) (.cells #[.int .i64 o, .int .i64 m, .int .i64 m2, .slice v.a v.len v.cap] 36))
      replace hr := hr.keep ((Below.refl _ _).alloc (Nat.le_refl _) (.cells #[.int .i64 o, .int .i64 m, .int .i64 m2, .slice v.a v.len v.cap] 36))
      by_cases ho0 : o = 0
      · subst ho0
        have hz : Hid (∀ W, Below w.heap.size w W → RowAt W v.a v.len (v.q.take v.len)) := HROW
        generalize hZ : v.q.take v.len = Z at *
        clear hZ HROW
        obtain ⟨j1, _, _⟩ := symS_inv B0.out i1 Z
        have r1 := symS_cnt bs Z s
        have HD0 : ∀ (W : World) (xo : Option Addr) (n c : Nat), Rd p q bs s W → RowAt W xo n Z → n ≤ 9223372036854775807 → Calls Try.prog 12 #[.pointer (some ⟨p, 0, none⟩), .slice xo n c] W fun e w' => e = .returned (.int .i64 (symS bs Z s).1) ∧ Rd p q bs (symS bs Z s).2 w' ∧ But p W w' := fun W xo n c h1 h2 h3 => symbol_any p q bs s xo n c Z W h1 i1 (by omega) h2 h3
        have HR0 : ∀ (W : World) (xo : Option Addr) (n c : Nat), Rr r gg bs s W → RowAt W xo n Z → n ≤ 9223372036854775807 → (∀ b off, xo = some ⟨b, off, none⟩ → 0 < n → b ≠ r) → Calls Try.prog 19 #[.pointer (some ⟨r, 0, none⟩), .slice xo n c] W fun e w' => e = .returned (.int .i64 (symS bs Z s).1) ∧ Rr r gg bs (symS bs Z s).2 w' ∧ But r W w' := fun W xo n c h1 h2 h3 h4 => rsymbol_any r gg bs s xo n c Z W h1 i1 (by omega) h2 h3 h4
        generalize hR : symS bs Z s = R at *
        have HD1 : Hid (∀ (W : World) (xo : Option Addr) (n c : Nat), Rd p q bs s W → RowAt W xo n Z → n ≤ 9223372036854775807 → Calls Try.prog 12 #[.pointer (some ⟨p, 0, none⟩), .slice xo n c] W fun e w' => e = .returned (.int .i64 R.1) ∧ Rd p q bs R.2 w' ∧ But p W w') := HD0
        have HR1 : Hid (∀ (W : World) (xo : Option Addr) (n c : Nat), Rr r gg bs s W → RowAt W xo n Z → n ≤ 9223372036854775807 → (∀ b off, xo = some ⟨b, off, none⟩ → 0 < n → b ≠ r) → Calls Try.prog 19 #[.pointer (some ⟨r, 0, none⟩), .slice xo n c] W fun e w' => e = .returned (.int .i64 R.1) ∧ Rr r gg bs R.2 w' ∧ But r W w') := HR0
        clear hR HD0 HR0
        have c9 := j1.cnt
        go_wp2
        have hS0 : (wr.alloc (.cells #[.int .i64 0, .int .i64 m, .int .i64 m2, .slice v.a v.len v.cap] 36)).drew.cell? ⟨wr.heap.size, 3, none⟩ = some (.slice v.a v.len v.cap) := by show (wr.alloc _).cell? _ = _; rw [World.cell?_alloc_new]; rfl
        replace hb := hb.drew
        replace hd := hd.drew
        replace hr : Rr r gg bs s _ := Rr.drew hr
        have hcl : v.a = none → v.cap = 0 := fun h => (hnil h).2
        have hvl : v.len ≤ v.cap := hlc
        go_region_held3 (fun W => W.cell? ⟨wr.heap.size, 3, none⟩ = some (.slice v.a v.len v.cap)) (first | assumption | go_keep) (first
          | ((refine step_append_copy rfl (.tmp 52) (.tmp 54) rfl v.a v.len v.cap Z (hz.out _ hb) hcl (by omega) (by simp [Act.eval]) (by simp [Act.eval]) ?_; intro r9 c8 w6 hn6 hb6; replace hd := hd.keep hb6; replace hr := hr.keep hb6; have hS1 := (hb6.cell (p := ⟨wr.heap.size, 3, none⟩) (by simp)).trans hS0; replace hb := hb.trans (hb6.mono hb.size)))
          | (go_at_call 12; go_loud (refine (HD1.out _ _ _ _ hd hn6 hlen).mono ?_; rintro e w7 ⟨rfl, hd', hb7⟩; replace hd := hd'; replace hr := hr.but hb7 (by omega) hgp; replace hb := hb.trans (hb7.below hp); have hS2 := (HX.out _ _ p (by omega) hb7 3).trans hS1; clear hd' hb7))
          | (go_at_call 19; go_loud (refine (HR1.out _ _ _ _ hr (hz.out _ hb) hlen (fun b' o' h1 h2 => by have := HRB.out b' o' h1 h2; omega)).mono ?_; rintro e w8 ⟨rfl, hr', hb8⟩; replace hr := hr'; replace hd := hd.but hb8 (by omega) (by omega); replace hb := hb.trans (hb8.below hrw); have hS3 := (HX.out _ _ r (by omega) hb8 3).trans hS2; clear hr' hb8)))
        all_goals
          go_wp2_with (first
            | (go_at_call 11; go_loud (refine (tell_any p q bs R.2 _ hd j1 (by omega)).mono ?_; rintro e wt ⟨rfl, kk, rfl⟩; replace hd := hd.drewN kk; replace hr := hr.drewN kk; replace hb := Below.drewN hb kk))
            | (go_at_call 25; go_loud (refine (rtell_any r gg bs R.2 _ hr j1 (by omega)).mono ?_; rintro e wt ⟨rfl, kk, rfl⟩; replace hd := hd.drewN kk; replace hr := hr.drewN kk; replace hb := Below.drewN hb kk; rw [World.drewN_drewN] at hb hd hr))
            | (go_at_call 17; go_loud (refine (bad_any p q bs R.2 _ hd j1 (by omega)).mono ?_; rintro e wt ⟨rfl, kk, rfl⟩; replace hd := hd.drewN kk; replace hr := hr.drewN kk; replace hb := Below.drewN hb kk; rw [World.drewN_drewN] at hb hd hr))
            | (go_at_call 26; go_loud (refine (rbad_any r gg bs R.2 _ hr j1 (by omega)).mono ?_; rintro e wt ⟨rfl, kk, rfl⟩; replace hd := hd.drewN kk; replace hr := hr.drewN kk; replace hb := Below.drewN hb kk; rw [World.drewN_drewN] at hb hd hr)))
          go_roundw
          case rel => exact ⟨hb, k + 1, R.2, by omega, by go_num, j1, by omega, hd, hr⟩
          case measure => simp [intOf]; omega
      · have hno0 : (o == 0) = false := beq_eq_false_iff_ne.2 ho0
        by_cases ho1 : o = 1
        · subst ho1
          have hj := flagS_inv B0.out i1 m
          have r1 := flagS_cnt bs m i1
          have HD0 : ∀ W, Rd p q bs s W → Calls Try.prog 13 #[.pointer (some ⟨p, 0, none⟩), .int .i64 m] W fun e w' => e = .returned (.bool (flagS bs m s).1) ∧ Rd p q bs (flagS bs m s).2 w' ∧ But p W w' := fun W h1 => flag_any p q bs s m W h1 i1 (by omega)
          have HR0 : ∀ W, Rr r gg bs s W → Calls Try.prog 20 #[.pointer (some ⟨r, 0, none⟩), .int .i64 m] W fun e w' => e = .returned (.bool (flagS bs m s).1) ∧ Rr r gg bs (flagS bs m s).2 w' ∧ But r W w' := fun W h1 => rflag_any r gg bs s m W h1 i1 (by omega)
          generalize hR : flagS bs m s = R at *
          have HD1 : Hid (∀ W, Rd p q bs s W → Calls Try.prog 13 #[.pointer (some ⟨p, 0, none⟩), .int .i64 m] W fun e w' => e = .returned (.bool R.1) ∧ Rd p q bs R.2 w' ∧ But p W w') := HD0
          have HR1 : Hid (∀ W, Rr r gg bs s W → Calls Try.prog 20 #[.pointer (some ⟨r, 0, none⟩), .int .i64 m] W fun e w' => e = .returned (.bool R.1) ∧ Rr r gg bs R.2 w' ∧ But r W w') := HR0
          clear hR HD0 HR0
          have j1 : Inv R.2 := hj.1
          clear hj
          have c9 := j1.cnt
          go_wp2
          have hS0 : (wr.alloc (.cells #[.int .i64 1, .int .i64 m, .int .i64 m2, .slice v.a v.len v.cap] 36)).drew.cell? ⟨wr.heap.size, 1, none⟩ = some (.int .i64 m) := by show (wr.alloc _).cell? _ = _; rw [World.cell?_alloc_new]; rfl
          replace hb := hb.drew
          replace hd := hd.drew
          replace hr : Rr r gg bs s _ := Rr.drew hr
          go_region_held3 (fun W => W.cell? ⟨wr.heap.size, 1, none⟩ = some (.int .i64 m)) (assumption) (first
            | (go_at_call 13; go_loud (refine (HD1.out _ hd).mono ?_; rintro e w7 ⟨rfl, hd', hb7⟩; replace hd := hd'; replace hr := hr.but hb7 (by omega) hgp; replace hb := hb.trans (hb7.below hp); have hS1 := (HX.out _ _ p (by omega) hb7 1).trans hS0; clear hd' hb7))
            | (go_at_call 20; go_loud (refine (HR1.out _ hr).mono ?_; rintro e w8 ⟨rfl, hr', hb8⟩; replace hr := hr'; replace hd := hd.but hb8 (by omega) (by omega); replace hb := hb.trans (hb8.below hrw); have hS2 := (HX.out _ _ r (by omega) hb8 1).trans hS1; clear hr' hb8)))
          all_goals
            go_wp2_with (first
              | (go_at_call 11; go_loud (refine (tell_any p q bs R.2 _ hd j1 (by omega)).mono ?_; rintro e wt ⟨rfl, kk, rfl⟩; replace hd := hd.drewN kk; replace hr := hr.drewN kk; replace hb := Below.drewN hb kk))
              | (go_at_call 25; go_loud (refine (rtell_any r gg bs R.2 _ hr j1 (by omega)).mono ?_; rintro e wt ⟨rfl, kk, rfl⟩; replace hd := hd.drewN kk; replace hr := hr.drewN kk; replace hb := Below.drewN hb kk; rw [World.drewN_drewN] at hb hd hr))
              | (go_at_call 17; go_loud (refine (bad_any p q bs R.2 _ hd j1 (by omega)).mono ?_; rintro e wt ⟨rfl, kk, rfl⟩; replace hd := hd.drewN kk; replace hr := hr.drewN kk; replace hb := Below.drewN hb kk; rw [World.drewN_drewN] at hb hd hr))
              | (go_at_call 26; go_loud (refine (rbad_any r gg bs R.2 _ hr j1 (by omega)).mono ?_; rintro e wt ⟨rfl, kk, rfl⟩; replace hd := hd.drewN kk; replace hr := hr.drewN kk; replace hb := Below.drewN hb kk; rw [World.drewN_drewN] at hb hd hr)))
            go_roundw
            case rel => exact ⟨hb, k + 1, R.2, by omega, by go_num, j1, by omega, hd, hr⟩
            case measure => simp [intOf]; omega
        · have hno1 : (o == 1) = false := beq_eq_false_iff_ne.2 ho1
          by_cases ho2 : o = 2
          · subst ho2
            have hj := bitsS_inv bs i1 m
            have r1 := bitsS_cnt bs m s
            have HD0 : ∀ W, Rd p q bs s W → Calls Try.prog 14 #[.pointer (some ⟨p, 0, none⟩), .int .i64 m] W fun e w' => e = .returned (.int .i64 (bitsS bs m s).1) ∧ Rd p q bs (bitsS bs m s).2 w' ∧ But p W w' := fun W h1 => bits_any p q bs s m W h1 i1 (by omega)
            have HR0 : ∀ W, Rr r gg bs s W → Calls Try.prog 21 #[.pointer (some ⟨r, 0, none⟩), .int .i64 m] W fun e w' => e = .returned (.int .i64 (bitsS bs m s).1) ∧ Rr r gg bs (bitsS bs m s).2 w' ∧ But r W w' := fun W h1 => rbits_any r gg bs s m W h1 i1 (by omega)
            generalize hR : bitsS bs m s = R at *
            have HD1 : Hid (∀ W, Rd p q bs s W → Calls Try.prog 14 #[.pointer (some ⟨p, 0, none⟩), .int .i64 m] W fun e w' => e = .returned (.int .i64 R.1) ∧ Rd p q bs R.2 w' ∧ But p W w') := HD0
            have HR1 : Hid (∀ W, Rr r gg bs s W → Calls Try.prog 21 #[.pointer (some ⟨r, 0, none⟩), .int .i64 m] W fun e w' => e = .returned (.int .i64 R.1) ∧ Rr r gg bs R.2 w' ∧ But r W w') := HR0
            clear hR HD0 HR0
            have j1 : Inv R.2 := hj.1
            clear hj
            have c9 := j1.cnt
            go_wp2
            have hS0 : (wr.alloc (.cells #[.int .i64 2, .int .i64 m, .int .i64 m2, .slice v.a v.len v.cap] 36)).drew.cell? ⟨wr.heap.size, 1, none⟩ = some (.int .i64 m) := by show (wr.alloc _).cell? _ = _; rw [World.cell?_alloc_new]; rfl
            replace hb := hb.drew
            replace hd := hd.drew
            replace hr : Rr r gg bs s _ := Rr.drew hr
            go_region_held3 (fun W => W.cell? ⟨wr.heap.size, 1, none⟩ = some (.int .i64 m)) (assumption) (first
              | (go_at_call 14; go_loud (refine (HD1.out _ hd).mono ?_; rintro e w7 ⟨rfl, hd', hb7⟩; replace hd := hd'; replace hr := hr.but hb7 (by omega) hgp; replace hb := hb.trans (hb7.below hp); have hS1 := (HX.out _ _ p (by omega) hb7 1).trans hS0; clear hd' hb7))
              | (go_at_call 21; go_loud (refine (HR1.out _ hr).mono ?_; rintro e w8 ⟨rfl, hr', hb8⟩; replace hr := hr'; replace hd := hd.but hb8 (by omega) (by omega); replace hb := hb.trans (hb8.below hrw); have hS2 := (HX.out _ _ r (by omega) hb8 1).trans hS1; clear hr' hb8)))
            all_goals
              go_wp2_with (first
                | (go_at_call 11; go_loud (refine (tell_any p q bs R.2 _ hd j1 (by omega)).mono ?_; rintro e wt ⟨rfl, kk, rfl⟩; replace hd := hd.drewN kk; replace hr := hr.drewN kk; replace hb := Below.drewN hb kk))
                | (go_at_call 25; go_loud (refine (rtell_any r gg bs R.2 _ hr j1 (by omega)).mono ?_; rintro e wt ⟨rfl, kk, rfl⟩; replace hd := hd.drewN kk; replace hr := hr.drewN kk; replace hb := Below.drewN hb kk; rw [World.drewN_drewN] at hb hd hr))
                | (go_at_call 17; go_loud (refine (bad_any p q bs R.2 _ hd j1 (by omega)).mono ?_; rintro e wt ⟨rfl, kk, rfl⟩; replace hd := hd.drewN kk; replace hr := hr.drewN kk; replace hb := Below.drewN hb kk; rw [World.drewN_drewN] at hb hd hr))
                | (go_at_call 26; go_loud (refine (rbad_any r gg bs R.2 _ hr j1 (by omega)).mono ?_; rintro e wt ⟨rfl, kk, rfl⟩; replace hd := hd.drewN kk; replace hr := hr.drewN kk; replace hb := Below.drewN hb kk; rw [World.drewN_drewN] at hb hd hr)))
              go_roundw
              case rel => exact ⟨hb, k + 1, R.2, by omega, by go_num, j1, by omega, hd, hr⟩
              case measure => simp [intOf]; omega
          · have hno2 : (o == 2) = false := beq_eq_false_iff_ne.2 ho2
            by_cases ho3 : o = 3
            · subst ho3
              have hj := uintS_inv B0.out i1 m
              have r1 := uintS_cnt bs m s
              have HD0 : ∀ W, Rd p q bs s W → Calls Try.prog 15 #[.pointer (some ⟨p, 0, none⟩), .int .i64 m] W fun e w' => e = .returned (.int .i64 (uintS bs m s).1) ∧ Rd p q bs (uintS bs m s).2 w' ∧ But p W w' := fun W h1 => uint_any p q bs s m W h1 i1 (by omega)
              have HR0 : ∀ W, Rr r gg bs s W → Calls Try.prog 22 #[.pointer (some ⟨r, 0, none⟩), .int .i64 m] W fun e w' => e = .returned (.int .i64 (uintS bs m s).1) ∧ Rr r gg bs (uintS bs m s).2 w' ∧ But r W w' := fun W h1 => ruint_any r gg bs s m W h1 i1 (by omega)
              generalize hR : uintS bs m s = R at *
              have HD1 : Hid (∀ W, Rd p q bs s W → Calls Try.prog 15 #[.pointer (some ⟨p, 0, none⟩), .int .i64 m] W fun e w' => e = .returned (.int .i64 R.1) ∧ Rd p q bs R.2 w' ∧ But p W w') := HD0
              have HR1 : Hid (∀ W, Rr r gg bs s W → Calls Try.prog 22 #[.pointer (some ⟨r, 0, none⟩), .int .i64 m] W fun e w' => e = .returned (.int .i64 R.1) ∧ Rr r gg bs R.2 w' ∧ But r W w') := HR0
              clear hR HD0 HR0
              have j1 : Inv R.2 := hj.1
              clear hj
              have c9 := j1.cnt
              go_wp2
              have hS0 : (wr.alloc (.cells #[.int .i64 3, .int .i64 m, .int .i64 m2, .slice v.a v.len v.cap] 36)).drew.cell? ⟨wr.heap.size, 1, none⟩ = some (.int .i64 m) := by show (wr.alloc _).cell? _ = _; rw [World.cell?_alloc_new]; rfl
              replace hb := hb.drew
              replace hd := hd.drew
              replace hr : Rr r gg bs s _ := Rr.drew hr
              go_region_held3 (fun W => W.cell? ⟨wr.heap.size, 1, none⟩ = some (.int .i64 m)) (assumption) (first
                | (go_at_call 15; go_loud (refine (HD1.out _ hd).mono ?_; rintro e w7 ⟨rfl, hd', hb7⟩; replace hd := hd'; replace hr := hr.but hb7 (by omega) hgp; replace hb := hb.trans (hb7.below hp); have hS1 := (HX.out _ _ p (by omega) hb7 1).trans hS0; clear hd' hb7))
                | (go_at_call 22; go_loud (refine (HR1.out _ hr).mono ?_; rintro e w8 ⟨rfl, hr', hb8⟩; replace hr := hr'; replace hd := hd.but hb8 (by omega) (by omega); replace hb := hb.trans (hb8.below hrw); have hS2 := (HX.out _ _ r (by omega) hb8 1).trans hS1; clear hr' hb8)))
              all_goals
                go_wp2_with (first
                  | (go_at_call 11; go_loud (refine (tell_any p q bs R.2 _ hd j1 (by omega)).mono ?_; rintro e wt ⟨rfl, kk, rfl⟩; replace hd := hd.drewN kk; replace hr := hr.drewN kk; replace hb := Below.drewN hb kk))
                  | (go_at_call 25; go_loud (refine (rtell_any r gg bs R.2 _ hr j1 (by omega)).mono ?_; rintro e wt ⟨rfl, kk, rfl⟩; replace hd := hd.drewN kk; replace hr := hr.drewN kk; replace hb := Below.drewN hb kk; rw [World.drewN_drewN] at hb hd hr))
                  | (go_at_call 17; go_loud (refine (bad_any p q bs R.2 _ hd j1 (by omega)).mono ?_; rintro e wt ⟨rfl, kk, rfl⟩; replace hd := hd.drewN kk; replace hr := hr.drewN kk; replace hb := Below.drewN hb kk; rw [World.drewN_drewN] at hb hd hr))
                  | (go_at_call 26; go_loud (refine (rbad_any r gg bs R.2 _ hr j1 (by omega)).mono ?_; rintro e wt ⟨rfl, kk, rfl⟩; replace hd := hd.drewN kk; replace hr := hr.drewN kk; replace hb := Below.drewN hb kk; rw [World.drewN_drewN] at hb hd hr)))
                go_roundw
                case rel => exact ⟨hb, k + 1, R.2, by omega, by go_num, j1, by omega, hd, hr⟩
                case measure => simp [intOf]; omega
            · have hno3 : (o == 3) = false := beq_eq_false_iff_ne.2 ho3
              by_cases ho4 : o = 4
              · subst ho4
                have hj := lapS_inv B0.out i1 m m2
                have r1 := lapS_cnt bs m m2 s
                have HD0 : ∀ W, Rd p q bs s W → Calls Try.prog 16 #[.pointer (some ⟨p, 0, none⟩), .int .i64 m, .int .i64 m2] W fun e w' => e = .returned (.int .i64 (lapS bs m m2 s).1) ∧ Rd p q bs (lapS bs m m2 s).2 w' ∧ But p W w' := fun W h1 => lap_any p q bs s m m2 W h1 i1 (by omega)
                have HR0 : ∀ W, Rr r gg bs s W → Calls Try.prog 23 #[.pointer (some ⟨r, 0, none⟩), .int .i64 m, .int .i64 m2] W fun e w' => e = .returned (.int .i64 (lapS bs m m2 s).1) ∧ Rr r gg bs (lapS bs m m2 s).2 w' ∧ But r W w' := fun W h1 => rlap_any r gg bs s m m2 W h1 i1 (by omega)
                generalize hR : lapS bs m m2 s = R at *
                have HD1 : Hid (∀ W, Rd p q bs s W → Calls Try.prog 16 #[.pointer (some ⟨p, 0, none⟩), .int .i64 m, .int .i64 m2] W fun e w' => e = .returned (.int .i64 R.1) ∧ Rd p q bs R.2 w' ∧ But p W w') := HD0
                have HR1 : Hid (∀ W, Rr r gg bs s W → Calls Try.prog 23 #[.pointer (some ⟨r, 0, none⟩), .int .i64 m, .int .i64 m2] W fun e w' => e = .returned (.int .i64 R.1) ∧ Rr r gg bs R.2 w' ∧ But r W w') := HR0
                clear hR HD0 HR0
                have j1 : Inv R.2 := hj.1
                clear hj
                have c9 := j1.cnt
                go_wp2
                have hS0 : (wr.alloc (.cells #[.int .i64 4, .int .i64 m, .int .i64 m2, .slice v.a v.len v.cap] 36)).drew.cell? ⟨wr.heap.size, 1, none⟩ = some (.int .i64 m) ∧ (wr.alloc (.cells #[.int .i64 4, .int .i64 m, .int .i64 m2, .slice v.a v.len v.cap] 36)).drew.cell? ⟨wr.heap.size, 2, none⟩ = some (.int .i64 m2) := ⟨by show (wr.alloc _).cell? _ = _; rw [World.cell?_alloc_new]; rfl, by show (wr.alloc _).cell? _ = _; rw [World.cell?_alloc_new]; rfl⟩
                replace hb := hb.drew
                replace hd := hd.drew
                replace hr : Rr r gg bs s _ := Rr.drew hr
                go_region_held3 (fun W => W.cell? ⟨wr.heap.size, 1, none⟩ = some (.int .i64 m) ∧ W.cell? ⟨wr.heap.size, 2, none⟩ = some (.int .i64 m2)) (assumption) (first
                  | (go_at_call 16; go_loud (refine (HD1.out _ hd).mono ?_; rintro e w7 ⟨rfl, hd', hb7⟩; replace hd := hd'; replace hr := hr.but hb7 (by omega) hgp; replace hb := hb.trans (hb7.below hp); have hS1 := And.intro ((HX.out _ _ p (by omega) hb7 1).trans hS0.1) ((HX.out _ _ p (by omega) hb7 2).trans hS0.2); clear hd' hb7))
                  | (go_at_call 23; go_loud (refine (HR1.out _ hr).mono ?_; rintro e w8 ⟨rfl, hr', hb8⟩; replace hr := hr'; replace hd := hd.but hb8 (by omega) (by omega); replace hb := hb.trans (hb8.below hrw); have hS2 := And.intro ((HX.out _ _ r (by omega) hb8 1).trans hS1.1) ((HX.out _ _ r (by omega) hb8 2).trans hS1.2); clear hr' hb8)))
                all_goals
                  go_wp2_with (first
                    | (go_at_call 11; go_loud (refine (tell_any p q bs R.2 _ hd j1 (by omega)).mono ?_; rintro e wt ⟨rfl, kk, rfl⟩; replace hd := hd.drewN kk; replace hr := hr.drewN kk; replace hb := Below.drewN hb kk))
                    | (go_at_call 25; go_loud (refine (rtell_any r gg bs R.2 _ hr j1 (by omega)).mono ?_; rintro e wt ⟨rfl, kk, rfl⟩; replace hd := hd.drewN kk; replace hr := hr.drewN kk; replace hb := Below.drewN hb kk; rw [World.drewN_drewN] at hb hd hr))
                    | (go_at_call 17; go_loud (refine (bad_any p q bs R.2 _ hd j1 (by omega)).mono ?_; rintro e wt ⟨rfl, kk, rfl⟩; replace hd := hd.drewN kk; replace hr := hr.drewN kk; replace hb := Below.drewN hb kk; rw [World.drewN_drewN] at hb hd hr))
                    | (go_at_call 26; go_loud (refine (rbad_any r gg bs R.2 _ hr j1 (by omega)).mono ?_; rintro e wt ⟨rfl, kk, rfl⟩; replace hd := hd.drewN kk; replace hr := hr.drewN kk; replace hb := Below.drewN hb kk; rw [World.drewN_drewN] at hb hd hr)))
                  go_roundw
                  case rel => exact ⟨hb, k + 1, R.2, by omega, by go_num, j1, by omega, hd, hr⟩
                  case measure => simp [intOf]; omega
              · have hno4 : (o == 4) = false := beq_eq_false_iff_ne.2 ho4
                go_wp2_with (go_at_call 24; go_loud (refine (ricdf_row _ _).mono ?_; rintro e w6 ⟨a6, m6, cap6, rfl, ht6, hx6, hm6, hb6⟩; replace hd := hd.keep hb6; replace hr := hr.keep hb6; replace hb := hb.trans (hb6.mono hb.size); clear hb6))
                generalize icdfL _ = Z at *
                have hx7 : ∀ b off, a6 = some ⟨b, off, none⟩ → 0 < m6 → b ≠ p ∧ b ≠ r := fun b o h h0 => by have := hx6 b o h h0; simp at this; omega
                clear hx6
                obtain ⟨j1, _, _⟩ := symS_inv B0.out i1 Z
                have r1 := symS_cnt bs Z s
                have HD0 : ∀ (W : World) (xo : Option Addr) (n c : Nat), Rd p q bs s W → RowAt W xo n Z → n ≤ 9223372036854775807 → Calls Try.prog 12 #[.pointer (some ⟨p, 0, none⟩), .slice xo n c] W fun e w' => e = .returned (.int .i64 (symS bs Z s).1) ∧ Rd p q bs (symS bs Z s).2 w' ∧ But p W w' := fun W xo n c h1 h2 h3 => symbol_any p q bs s xo n c Z W h1 i1 (by omega) h2 h3
                have HR0 : ∀ (W : World) (xo : Option Addr) (n c : Nat), Rr r gg bs s W → RowAt W xo n Z → n ≤ 9223372036854775807 → (∀ b off, xo = some ⟨b, off, none⟩ → 0 < n → b ≠ r) → Calls Try.prog 19 #[.pointer (some ⟨r, 0, none⟩), .slice xo n c] W fun e w' => e = .returned (.int .i64 (symS bs Z s).1) ∧ Rr r gg bs (symS bs Z s).2 w' ∧ But r W w' := fun W xo n c h1 h2 h3 h4 => rsymbol_any r gg bs s xo n c Z W h1 i1 (by omega) h2 h3 h4
                generalize hR : symS bs Z s = R at *
                have HD1 : Hid (∀ (W : World) (xo : Option Addr) (n c : Nat), Rd p q bs s W → RowAt W xo n Z → n ≤ 9223372036854775807 → Calls Try.prog 12 #[.pointer (some ⟨p, 0, none⟩), .slice xo n c] W fun e w' => e = .returned (.int .i64 R.1) ∧ Rd p q bs R.2 w' ∧ But p W w') := HD0
                have HR1 : Hid (∀ (W : World) (xo : Option Addr) (n c : Nat), Rr r gg bs s W → RowAt W xo n Z → n ≤ 9223372036854775807 → (∀ b off, xo = some ⟨b, off, none⟩ → 0 < n → b ≠ r) → Calls Try.prog 19 #[.pointer (some ⟨r, 0, none⟩), .slice xo n c] W fun e w' => e = .returned (.int .i64 R.1) ∧ Rr r gg bs R.2 w' ∧ But r W w') := HR0
                clear hR HD0 HR0
                have c9 := j1.cnt
                go_wp2_with (first
                  | (go_at_call 12; go_loud (refine (HD1.out _ _ _ _ hd ht6 (by omega)).mono ?_; rintro e w7 ⟨rfl, hd', hb7⟩; replace hd := hd'; replace hr := hr.but hb7 (by omega) hgp; replace ht6 := ht6.but hb7 (fun b o h h0 => (hx7 b o h h0).1); replace hb := hb.trans (hb7.below hp); clear hd' hb7))
                  | (go_at_call 19; go_loud (refine (HR1.out _ _ _ _ hr ht6 (by omega) (fun b o h h0 => (hx7 b o h h0).2)).mono ?_; rintro e w8 ⟨rfl, hr', hb8⟩; replace hr := hr'; replace hd := hd.but hb8 (by omega) (by omega); replace hb := hb.trans (hb8.below hrw); clear hr' hb8))
                  | (go_at_call 11; go_loud (refine (tell_any p q bs R.2 _ hd j1 (by omega)).mono ?_; rintro e wt ⟨rfl, kk, rfl⟩; replace hd := hd.drewN kk; replace hr := hr.drewN kk; replace hb := Below.drewN hb kk))
                  | (go_at_call 25; go_loud (refine (rtell_any r gg bs R.2 _ hr j1 (by omega)).mono ?_; rintro e wt ⟨rfl, kk, rfl⟩; replace hd := hd.drewN kk; replace hr := hr.drewN kk; replace hb := Below.drewN hb kk; rw [World.drewN_drewN] at hb hd hr))
                  | (go_at_call 17; go_loud (refine (bad_any p q bs R.2 _ hd j1 (by omega)).mono ?_; rintro e wt ⟨rfl, kk, rfl⟩; replace hd := hd.drewN kk; replace hr := hr.drewN kk; replace hb := Below.drewN hb kk; rw [World.drewN_drewN] at hb hd hr))
                  | (go_at_call 26; go_loud (refine (rbad_any r gg bs R.2 _ hr j1 (by omega)).mono ?_; rintro e wt ⟨rfl, kk, rfl⟩; replace hd := hd.drewN kk; replace hr := hr.drewN kk; replace hb := Below.drewN hb kk; rw [World.drewN_drewN] at hb hd hr)))
                go_roundw
                case rel => exact ⟨hb, k + 1, R.2, by omega, by go_num, j1, by omega, hd, hr⟩
                case measure => simp [intOf]; omega
    · go_wp2
      go_ret
      exact ⟨rfl, hb⟩

theorem rcReads.walk (a0 : Option Addr) (n0 cap0 : Nat) (z0 : List Int) (a2 : Option Addr) (len cap : Nat) (vs : Nat → ActV) (w : World)
    (h0 : IsRow .u8 w a0 n0 cap0 z0) (_s0 : cap0 * 1 ≤ 140737488351232) (h2 : ActsAt 3 w a2 len cap vs) (s2 : ∀ i, i < len → (vs i).cap * 8 ≤ 140737488351232) :
    Calls Try.prog 4 #[.slice a0 n0 cap0, .slice a2 len cap] w fun e w' => e = .returned (.bool true) ∧ Below w.heap.size w w' := by
  by_cases k0 : n0 ≤ 2000
  · by_cases k2 : len ≤ 100
    · obtain ⟨g0, A0, _⟩ := arg_of_row h0 (by omega)
      exact rcReads.run g0 a0 n0 cap0 _ a2 len cap vs w A0 k0 k2 h2 s2
    · have hb := Below.refl w.heap.size w
      have hl := (acts_at h2).1
      go_enter Try.func4, Try.ntmps4
      go_wp2_with (go_at_call 9; refine (awake_any _).mono ?_; rintro e w1 ⟨rfl, hb1⟩; replace hb := hb.trans (hb1.mono hb.size); clear hb1)
      go_ret
      exact ⟨rfl, hb⟩
  · have hb := Below.refl w.heap.size w
    have hl := row_len h0
    go_enter Try.func4, Try.ntmps4
    go_wp2_with (go_at_call 9; refine (awake_any _).mono ?_; rintro e w1 ⟨rfl, hb1⟩; replace hb := hb.trans (hb1.mono hb.size); clear hb1)
    go_ret
    exact ⟨rfl, hb⟩

end Go.Proofs.Ytfdfknfbnbeloaa
