/- The law of runs answers true. -/
import Derived.Test.YtbnkapeahbegaaaSynZ
namespace Go.Proofs.Ytbnkapeahbegaaa
open Go.RowKit
set_option linter.unusedVariables false

theorem good_is (v : PartV) (W : World) (hp : PartIn W v) (G : Bool) (hg : v.good = G) : Calls Try.prog 14 #[.agg #[.slice v.a v.len v.cap, .int .i64 v.loud, .int .i64 v.lag, .int .i64 (v.taps 0), .int .i64 (v.taps 1), .int .i64 (v.taps 2), .int .i64 (v.taps 3), .int .i64 (v.taps 4), .slice v.fa v.flen v.fcap]] W fun e w' => e = .returned (.bool G) ∧ Below W.heap.size W w' := by
  rw [← hg]
  exact good_any v.a v.len v.cap v.pl v.loud v.lag _ _ _ _ _ v.fa v.flen v.fcap v.fl W hp.zp hp.zf hp.l1 hp.l2
theorem rgood_is (v : PartV) (W : World) (hp : PartIn W v) (G : Bool) (hg : v.good = G) : Calls Try.prog 15 #[.agg #[.slice v.a v.len v.cap, .int .i64 v.loud, .int .i64 v.lag, .int .i64 (v.taps 0), .int .i64 (v.taps 1), .int .i64 (v.taps 2), .int .i64 (v.taps 3), .int .i64 (v.taps 4), .slice v.fa v.flen v.fcap]] W fun e w' => e = .returned (.bool G) ∧ Below W.heap.size W w' := by
  rw [← hg]
  exact rgood_any v.a v.len v.cap v.pl v.loud v.lag _ _ _ _ _ v.fa v.flen v.fcap v.fl W hp.zp hp.zf hp.l1 hp.l2

theorem runs_many (a : Option Addr) (len cap : Nat) (w : World) (h8 : ((8 : Int) < len) = True) (h63 : len ≤ 9223372036854775807) :
    Calls Try.prog 4 #[.slice a len cap] w fun e w' => e = .returned (.bool true) ∧ Below w.heap.size w w' := by
  go_enter Try.func4, Try.ntmps4
  go_wp2_with (go_at_call 9; refine (awake_any _).mono ?_; rintro e w1 ⟨rfl, hB1⟩)
  go_ret
  exact ⟨rfl, hB1⟩

set_option maxRecDepth 100000 in
set_option maxHeartbeats 8000000 in
theorem runs_near (a : Option Addr) (len cap : Nat) (vs : Nat → PartV) (w : World) (h8 : len ≤ 8) (hps : 0 < len → ∃ b off, a = some ⟨b, off, none⟩ ∧ ∀ i, i < len → PartIn w (vs i) ∧ PartCells w b (off + i * 9) (vs i)) :
    Calls Try.prog 4 #[.slice a len cap] w fun e w' => e = .returned (.bool true) ∧ Below w.heap.size w w' := by
  have g1 : ((8 : Int) < len) = False := eq_false (by omega)
  have HP : Hid (0 < len → ∃ b off, a = some ⟨b, off, none⟩ ∧ ∀ i, i < len → PartIn w (vs i) ∧ PartCells w b (off + i * 9) (vs i)) := hps
  have y1 : Hid True := trivial
  clear hps
  go_enter Try.func4, Try.ntmps4
  go_wp2_with (first
    | (go_at_call 9; refine (awake_any _).mono ?_; rintro e w1 ⟨rfl, hB1⟩)
    | (go_at_call 10; clear y1; refine (new_is _).mono ?_; rintro e w2 ⟨p, rfl, hp, hv2, hb2⟩; have HB2 : Hid (Pair w p w2.heap.size (zeros 320) (zeros 32) [] [] (.slice none 0 0) (.slice none 0 0) (w2.alloc (.cells #[.slice none 0 0, .slice none 0 0] 36))) := pair_start (hB1.trans (hb2.mono hB1.size)) hv2 (Nat.le_trans hB1.size hp); clear hb2 hB1 hp hv2))
  obtain ⟨r, hr⟩ : ∃ r, w2.heap.size = r := ⟨_, rfl⟩
  have HS : Hid (Pair w p r (zeros 320) (zeros 32) [] [] (.slice none 0 0) (.slice none 0 0) (w2.alloc (.cells #[.slice none 0 0, .slice none 0 0] 36))) := by
    have := HB2.out
    rw [hr] at this
    exact this
  rw [hr]
  clear HB2 hr
  go_loopw [5] (fun i W => ∃ (k : Nat) (D E X Y : List Int) (u1 u2 : Value), k ≤ len ∧ i = .int .i64 k ∧ Hid (Pair w p r D E X Y u1 u2 W)) (fun i _ => len - (intOf i).toNat)
  case atStart => exact ⟨0, _, _, _, _, _, _, Nat.zero_le _, rfl, HS⟩
  case round =>
    clear HS
    obtain ⟨k, D, E, X, Y, u1, u2, hk, rfl, HH⟩ := hrel
    by_cases hlt : k < len
    · obtain ⟨b, off, rfl, hall⟩ := HP.out (by omega)
      obtain ⟨hin, hcells⟩ := hall k hlt
      have HIN : Hid (PartIn w (vs k)) := hin
      obtain ⟨d0, d1, d2, d3, d4, d5, d6, d7, d8⟩ := hcells.keep HH.out.bel
      clear hall hin hcells HP
      generalize vs k = v at *
      have HBX : Hid (Pbox w p r D E X Y u1 u2 wr.heap.size #[.slice v.a v.len v.cap, .int .i64 v.loud, .int .i64 v.lag, .int .i64 (v.taps 0), .int .i64 (v.taps 1), .int .i64 (v.taps 2), .int .i64 (v.taps 3), .int .i64 (v.taps 4), .slice v.fa v.flen v.fcap] (wr.alloc (.cells #[.slice v.a v.len v.cap, .int .i64 v.loud, .int .i64 v.lag, .int .i64 (v.taps 0), .int .i64 (v.taps 1), .int .i64 (v.taps 2), .int .i64 (v.taps 3), .int .i64 (v.taps 4), .slice v.fa v.flen v.fcap] 31))) := HH.out.boxed _
      cases hg : v.good with
      | false =>
        go_wp2
        clear d0 d1 d2 d3 d4 d5 d6 d7 d8
        generalize wr.alloc (.cells #[.slice v.a v.len v.cap, .int .i64 v.loud, .int .i64 v.lag, .int .i64 (v.taps 0), .int .i64 (v.taps 1), .int .i64 (v.taps 2), .int .i64 (v.taps 3), .int .i64 (v.taps 4), .slice v.fa v.flen v.fcap] 31) = W1 at HBX ⊢
        have HLD : Hid (∀ W, Below W1.heap.size W1 W → (Instr.loadAt 31 (.pointer (some ⟨wr.heap.size, 0, none⟩))).run Try.prog W = .ok (.agg #[.slice v.a v.len v.cap, .int .i64 v.loud, .int .i64 v.lag, .int .i64 (v.taps 0), .int .i64 (v.taps 1), .int .i64 (v.taps 2), .int .i64 (v.taps 3), .int .i64 (v.taps 4), .slice v.fa v.flen v.fcap]) W) := fun W hW => box_loaded (HBX.out.keep hW).bx
        have HGD : Hid (∀ W, Below W1.heap.size W1 W → Calls Try.prog 14 #[.agg #[.slice v.a v.len v.cap, .int .i64 v.loud, .int .i64 v.lag, .int .i64 (v.taps 0), .int .i64 (v.taps 1), .int .i64 (v.taps 2), .int .i64 (v.taps 3), .int .i64 (v.taps 4), .slice v.fa v.flen v.fcap]] W fun e w' => e = .returned (.bool false) ∧ Below W1.heap.size W1 w') := fun W hW => (good_is v W (HIN.out.keep (HBX.out.keep hW).pr.bel) _ hg).mono fun e w' ⟨he, hb⟩ => ⟨he, hW.trans (hb.mono hW.size)⟩
        have HRG : Hid (∀ W, Below W1.heap.size W1 W → Calls Try.prog 15 #[.agg #[.slice v.a v.len v.cap, .int .i64 v.loud, .int .i64 v.lag, .int .i64 (v.taps 0), .int .i64 (v.taps 1), .int .i64 (v.taps 2), .int .i64 (v.taps 3), .int .i64 (v.taps 4), .slice v.fa v.flen v.fcap]] W fun e w' => e = .returned (.bool false) ∧ Below W1.heap.size W1 w') := fun W hW => (rgood_is v W (HIN.out.keep (HBX.out.keep hW).pr.bel) _ hg).mono fun e w' ⟨he, hb⟩ => ⟨he, hW.trans (hb.mono hW.size)⟩
        refine wp_region_quiet_in (fun W => Below W1.heap.size W1 W) (by kernel_rfl) (by kernel_rfl) (Below.refl _ _).drew ?_
        refine wpQuiet_load 31 ⟨wr.heap.size, 0, none⟩ (.agg #[.slice v.a v.len v.cap, .int .i64 v.loud, .int .i64 v.lag, .int .i64 (v.taps 0), .int .i64 (v.taps 1), .int .i64 (v.taps 2), .int .i64 (v.taps 3), .int .i64 (v.taps 4), .slice v.fa v.flen v.fcap]) HLD.out rfl _ rfl rfl ?_
        quiet_step ((intro hW; exact HGD.out _ hW))
        refine wpQuiet_load 31 ⟨wr.heap.size, 0, none⟩ (.agg #[.slice v.a v.len v.cap, .int .i64 v.loud, .int .i64 v.lag, .int .i64 (v.taps 0), .int .i64 (v.taps 1), .int .i64 (v.taps 2), .int .i64 (v.taps 3), .int .i64 (v.taps 4), .slice v.fa v.flen v.fcap]) HLD.out rfl _ rfl rfl ?_
        quiet_step ((intro hW; exact HRG.out _ hW))
        quiet_step ((intro hW; rfl))
        refine wpQuiet_nil ?_
        intro W4 hW4
        have HB4 : Hid (Pbox w p r D E X Y u1 u2 wr.heap.size #[.slice v.a v.len v.cap, .int .i64 v.loud, .int .i64 v.lag, .int .i64 (v.taps 0), .int .i64 (v.taps 1), .int .i64 (v.taps 2), .int .i64 (v.taps 3), .int .i64 (v.taps 4), .slice v.fa v.flen v.fcap] W4) := HBX.out.keep hW4
        obtain ⟨⟨d0, d1, d2, d3, d4, d5, d6, d7, d8⟩, _⟩ := nine_cells HB4.out.bx
        clear HLD HGD HRG hW4 HBX
        go_simp
        go_wp2_with (first
          | (go_at_call 11; go_loud (refine (run_no p v _ (HIN.out.keep HB4.out.pr.bel) hg).mono ?_; rintro e w5 ⟨rfl, hb5⟩; have HB5 : Hid (Pbox w p r D E X Y u1 u2 wr.heap.size #[.slice v.a v.len v.cap, .int .i64 v.loud, .int .i64 v.lag, .int .i64 (v.taps 0), .int .i64 (v.taps 1), .int .i64 (v.taps 2), .int .i64 (v.taps 3), .int .i64 (v.taps 4), .slice v.fa v.flen v.fcap] w5) := HB4.out.keep hb5; clear hb5 d0 d1 d2 d3 d4 d5 d6 d7 d8 HB4; obtain ⟨⟨d0, d1, d2, d3, d4, d5, d6, d7, d8⟩, _⟩ := nine_cells HB5.out.bx))
          | (go_at_call 15; go_loud (refine (rgood_is v _ (HIN.out.keep HB5.out.pr.bel) _ hg).mono ?_; rintro e w6 ⟨rfl, hb6⟩; have HB6 : Hid (Pbox w p r D E X Y u1 u2 wr.heap.size #[.slice v.a v.len v.cap, .int .i64 v.loud, .int .i64 v.lag, .int .i64 (v.taps 0), .int .i64 (v.taps 1), .int .i64 (v.taps 2), .int .i64 (v.taps 3), .int .i64 (v.taps 4), .slice v.fa v.flen v.fcap] w6) := HB5.out.keep hb6; clear hb6 d0 d1 d2 d3 d4 d5 d6 d7 d8 HB5; obtain ⟨⟨d0, d1, d2, d3, d4, d5, d6, d7, d8⟩, _⟩ := nine_cells HB6.out.bx)))
        go_roundw
        case rel => exact ⟨k + 1, _, _, _, _, _, _, by omega, by go_num, HB6.out.pr⟩
        case measure => simp [intOf]; omega
      | true =>
        have hfew := HIN.out.few hg
        go_wp2
        clear d0 d1 d2 d3 d4 d5 d6 d7 d8
        generalize wr.alloc (.cells #[.slice v.a v.len v.cap, .int .i64 v.loud, .int .i64 v.lag, .int .i64 (v.taps 0), .int .i64 (v.taps 1), .int .i64 (v.taps 2), .int .i64 (v.taps 3), .int .i64 (v.taps 4), .slice v.fa v.flen v.fcap] 31) = W1 at HBX ⊢
        have HLD : Hid (∀ W, Below W1.heap.size W1 W → (Instr.loadAt 31 (.pointer (some ⟨wr.heap.size, 0, none⟩))).run Try.prog W = .ok (.agg #[.slice v.a v.len v.cap, .int .i64 v.loud, .int .i64 v.lag, .int .i64 (v.taps 0), .int .i64 (v.taps 1), .int .i64 (v.taps 2), .int .i64 (v.taps 3), .int .i64 (v.taps 4), .slice v.fa v.flen v.fcap]) W) := fun W hW => box_loaded (HBX.out.keep hW).bx
        have HGD : Hid (∀ W, Below W1.heap.size W1 W → Calls Try.prog 14 #[.agg #[.slice v.a v.len v.cap, .int .i64 v.loud, .int .i64 v.lag, .int .i64 (v.taps 0), .int .i64 (v.taps 1), .int .i64 (v.taps 2), .int .i64 (v.taps 3), .int .i64 (v.taps 4), .slice v.fa v.flen v.fcap]] W fun e w' => e = .returned (.bool true) ∧ Below W1.heap.size W1 w') := fun W hW => (good_is v W (HIN.out.keep (HBX.out.keep hW).pr.bel) _ hg).mono fun e w' ⟨he, hb⟩ => ⟨he, hW.trans (hb.mono hW.size)⟩
        have HRG : Hid (∀ W, Below W1.heap.size W1 W → Calls Try.prog 15 #[.agg #[.slice v.a v.len v.cap, .int .i64 v.loud, .int .i64 v.lag, .int .i64 (v.taps 0), .int .i64 (v.taps 1), .int .i64 (v.taps 2), .int .i64 (v.taps 3), .int .i64 (v.taps 4), .slice v.fa v.flen v.fcap]] W fun e w' => e = .returned (.bool true) ∧ Below W1.heap.size W1 w') := fun W hW => (rgood_is v W (HIN.out.keep (HBX.out.keep hW).pr.bel) _ hg).mono fun e w' ⟨he, hb⟩ => ⟨he, hW.trans (hb.mono hW.size)⟩
        refine wp_region_quiet_in (fun W => Below W1.heap.size W1 W) (by kernel_rfl) (by kernel_rfl) (Below.refl _ _).drew ?_
        refine wpQuiet_load 31 ⟨wr.heap.size, 0, none⟩ (.agg #[.slice v.a v.len v.cap, .int .i64 v.loud, .int .i64 v.lag, .int .i64 (v.taps 0), .int .i64 (v.taps 1), .int .i64 (v.taps 2), .int .i64 (v.taps 3), .int .i64 (v.taps 4), .slice v.fa v.flen v.fcap]) HLD.out rfl _ rfl rfl ?_
        quiet_step ((intro hW; exact HGD.out _ hW))
        refine wpQuiet_load 31 ⟨wr.heap.size, 0, none⟩ (.agg #[.slice v.a v.len v.cap, .int .i64 v.loud, .int .i64 v.lag, .int .i64 (v.taps 0), .int .i64 (v.taps 1), .int .i64 (v.taps 2), .int .i64 (v.taps 3), .int .i64 (v.taps 4), .slice v.fa v.flen v.fcap]) HLD.out rfl _ rfl rfl ?_
        quiet_step ((intro hW; exact HRG.out _ hW))
        quiet_step ((intro hW; rfl))
        refine wpQuiet_nil ?_
        intro W4 hW4
        have HB4 : Hid (Pbox w p r D E X Y u1 u2 wr.heap.size #[.slice v.a v.len v.cap, .int .i64 v.loud, .int .i64 v.lag, .int .i64 (v.taps 0), .int .i64 (v.taps 1), .int .i64 (v.taps 2), .int .i64 (v.taps 3), .int .i64 (v.taps 4), .slice v.fa v.flen v.fcap] W4) := HBX.out.keep hW4
        obtain ⟨⟨d0, d1, d2, d3, d4, d5, d6, d7, d8⟩, _⟩ := nine_cells HB4.out.bx
        clear HLD HGD HRG hW4 HBX
        go_simp
        have HRUN : Hid True := trivial
        go_wp2_with (first
          | (go_at_call 11; go_loud (refine (run_yes p D E v _ HB4.out.pr.vo (HIN.out.keep HB4.out.pr.bel) hg).mono ?_; rintro e w5 ⟨g5, rfl, hg5, hz5, hv5, ht5⟩; have HR5 : Hid (W4.heap.size ≤ g5 ∧ Zs w5 (some ⟨g5, 32, none⟩) v.len (soundsL v.part v.pl D E) ∧ Vo p (nextD v.part v.pl D E) (nextE v.part v.pl D E) w5 ∧ Turn p W4 w5 ∧ Below w.heap.size w w5 ∧ w5.heap[wr.heap.size]? = some (.cells #[.slice v.a v.len v.cap, .int .i64 v.loud, .int .i64 v.lag, .int .i64 (v.taps 0), .int .i64 (v.taps 1), .int .i64 (v.taps 2), .int .i64 (v.taps 3), .int .i64 (v.taps 4), .slice v.fa v.flen v.fcap] 31 (0, 0))) := ⟨hg5, hz5, hv5, ht5, HB4.out.pr.bel.trans (ht5.below HB4.out.pr.hp HB4.out.pr.bel.size), HB4.out.turned ht5⟩; clear hg5 hz5 hv5 ht5 d0 d1 d2 d3 d4 d5 d6 d7 d8; obtain ⟨⟨d0, d1, d2, d3, d4, d5, d6, d7, d8⟩, _⟩ := nine_cells HR5.out.2.2.2.2.2))
          | (go_at_call 15; go_loud (refine (rgood_is v _ (HIN.out.keep HR5.out.2.2.2.2.1) _ hg).mono ?_; rintro e w6 ⟨rfl, hb6⟩; have HR6 : Hid (W4.heap.size ≤ g5 ∧ Zs w6 (some ⟨g5, 32, none⟩) v.len (soundsL v.part v.pl D E) ∧ Vo p (nextD v.part v.pl D E) (nextE v.part v.pl D E) w6 ∧ Turn p W4 w6 ∧ w6.heap[wr.heap.size]? = some (.cells #[.slice v.a v.len v.cap, .int .i64 v.loud, .int .i64 v.lag, .int .i64 (v.taps 0), .int .i64 (v.taps 1), .int .i64 (v.taps 2), .int .i64 (v.taps 3), .int .i64 (v.taps 4), .slice v.fa v.flen v.fcap] 31 (0, 0))) := ⟨HR5.out.1, HR5.out.2.1.keep hb6, HR5.out.2.2.1.keep hb6, HR5.out.2.2.2.1.trans (.of_below hb6), (hb6.block _ (Array.getElem?_eq_some_iff.1 HR5.out.2.2.2.2.2).1).trans HR5.out.2.2.2.2.2⟩; clear hb6 d0 d1 d2 d3 d4 d5 d6 d7 d8 HR5; obtain ⟨⟨d0, d1, d2, d3, d4, d5, d6, d7, d8⟩, _⟩ := nine_cells HR6.out.2.2.2.2))
          | (go_at_call 16; go_loud (refine (HB4.out.pr.doc v HR6.out.2.2.2.1 HR6.out.2.2.1 HIN.out hg).mono ?_; rintro e w7 ⟨X7, Y7, t1, t2, g7, c7, rfl, hz7, hp7, hm7⟩; have HR7 : Hid (Zs w7 (some ⟨g5, 32, none⟩) v.len (soundsL v.part v.pl D E) ∧ Zs w7 (some ⟨g7, 0, none⟩) v.len (soundsL v.part v.pl D E) ∧ Pair w p r (nextD v.part v.pl D E) (nextE v.part v.pl D E) X7 Y7 t1 t2 w7) := ⟨hm7 _ _ _ HR6.out.2.1 (fun _ x hx => by cases hx; exact HR6.out.1), hz7, hp7⟩; clear hz7 hp7 hm7 HR6 HB4 d0 d1 d2 d3 d4 d5 d6 d7 d8))
          | (go_at_call 17; clear HRUN; go_loud (refine (zsame_any _ _ v.len _ _ _ _ HR7.out.1 HR7.out.2.1 (by omega)).mono ?_; rintro e _ ⟨rfl, n8, rfl⟩; have HR8 : Hid (Zs (w7.drewN n8) (some ⟨g5, 32, none⟩) v.len (soundsL v.part v.pl D E) ∧ Zs (w7.drewN n8) (some ⟨g7, 0, none⟩) v.len (soundsL v.part v.pl D E) ∧ Pair w p r (nextD v.part v.pl D E) (nextE v.part v.pl D E) X7 Y7 t1 t2 (w7.drewN n8)) := ⟨HR7.out.1.keep (below_drewN (Below.refl _ _) n8), HR7.out.2.1.keep (below_drewN (Below.refl _ _) n8), HR7.out.2.2.keep (below_drewN (Below.refl _ _) n8)⟩))
          | (go_at_call 13; go_loud (refine (pcm_any _ v.len _ _ _ HR8.out.1 (by omega)).mono ?_; rintro e w9 ⟨a9, rfl, hn9, hb9⟩; have HR9 : Hid (Zs w9 a9 v.len (pcmL (soundsL v.part v.pl D E)) ∧ Zs w9 (some ⟨g7, 0, none⟩) v.len (soundsL v.part v.pl D E) ∧ Pair w p r (nextD v.part v.pl D E) (nextE v.part v.pl D E) X7 Y7 t1 t2 w9) := ⟨Zs.of_new hn9 (by rw [pcmL_len, HR8.out.1.len]), HR8.out.2.1.keep hb9, HR8.out.2.2.keep hb9⟩; clear hn9 hb9))
          | (go_at_call 18; go_loud (refine (rpcm_any _ v.len _ _ _ HR9.out.2.1 (by omega)).mono ?_; rintro e w10 ⟨a10, c10, rfl, hn10, hb10⟩; have HR10 : Hid (Zs w10 a9 v.len (pcmL (soundsL v.part v.pl D E)) ∧ Zs w10 a10 v.len (pcmL (soundsL v.part v.pl D E)) ∧ Pair w p r (nextD v.part v.pl D E) (nextE v.part v.pl D E) X7 Y7 t1 t2 w10) := ⟨HR9.out.1.keep hb10, Zs.of_new hn10 (by rw [pcmL_len, HR8.out.1.len]), HR9.out.2.2.keep hb10⟩; clear hn10 hb10))
          | (go_at_call 17; go_loud (refine (zsame_any _ _ v.len _ _ _ _ HR10.out.1 HR10.out.2.1 (by omega)).mono ?_; rintro e _ ⟨rfl, n11, rfl⟩; have HR11 : Hid (Pair w p r (nextD v.part v.pl D E) (nextE v.part v.pl D E) X7 Y7 t1 t2 (w10.drewN n11)) := HR10.out.2.2.keep (below_drewN (Below.refl _ _) n11))))
        go_roundw
        case rel => exact ⟨k + 1, _, _, _, _, _, _, by omega, by go_num, HR11⟩
        case measure => simp [intOf]; omega
    · have hlt' : ((k : Int) < len) = False := eq_false (by omega)
      clear HP
      go_wp2
      go_ret
      exact ⟨rfl, HH.out.bel⟩

theorem synthRuns.walk (a : Option Addr) (len cap : Nat) (vs : Nat → PartV) (w : World) (h : PartsAt w a len cap vs) :
    Calls Try.prog 4 #[.slice a len cap] w fun e w' => e = .returned (.bool true) ∧ Below w.heap.size w w' := by
  obtain ⟨h1, h2⟩ := parts_in h
  by_cases c1 : 8 < len
  · exact runs_many a len cap w (eq_true (by omega)) h1
  · exact runs_near a len cap vs w (by omega) h2

end Go.Proofs.Ytbnkapeahbegaaa
