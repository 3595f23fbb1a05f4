/- What the document's own many comes to: some ways. (Laid by wip/mkmany.py.) -/
import Derived.Test.YtgiellpepnbpcaaDoorTocZf
import Derived.Deep.RegionLaw
import Derived.Deep.LoopGhost
import Derived.Deep.RegionWith
namespace Go.Proofs.YtgiellpepnbpcaaDoor
open Go.RowKit

set_option maxRecDepth 100000 in
set_option maxHeartbeats 1500000 in
theorem many_pad_bad (g q : Nat) (a0 : Option Addr) (n0 c0 : Nat) (bs : List Nat) (cfg : Nat) (ch : Int) (c : Nat) (r : List Nat) (w0 w : World) (h : Mpk w0 w g q a0 n0 c0 bs (cfg : Nat) ch w (c :: r) (.slice none 0 0) 0 []) (hcfg : cfg ≤ 11) (m ms : Nat) (hmE : c % 64 = m) (hmsE : msN cfg = ms) (hm : ¬ m = 0) (hl : ¬ 120 < m * ms) (hpb : c / 64 % 2 = 1) (hbad : ∀ p r1, padN r 0 = some (p, r1) → ¬ p ≤ r1.length) :
    Calls Tryd.prog 35 #[.pointer (some ⟨g, 0, none⟩), .pointer (some ⟨q, 0, none⟩)] w fun e w' => e = .returned (.tuple #[]) ∧ ManyR w0 w g q a0 n0 c0 bs (cfg : Nat) ch (msN cfg) (c :: r) w' := by
  have HM0 : Hid (Mpk w0 w g q a0 n0 c0 bs (cfg : Nat) ch w (c :: r) (.slice none 0 0) 0 []) := h
  have HB : Hid (g < w.heap.size ∧ q < w.heap.size ∧ g ≠ q) := ⟨h.gB, h.qB, h.ne⟩
  have hc256 : c < 256 := by obtain ⟨_, _, _, _, _, _, _, _, hb, _⟩ := h.know; exact hb.row.small c (by simp)
  have b0 : (0 : Int) ≤ c := by omega
  have b1 : c ≤ 255 := by omega
  have b2 : m ≤ 63 := by omega
  have b3 : ms ≤ 20 := by have := (msN_in cfg).2; omega
  have bm : (0 : Int) ≤ m := by omega
  have hA : bits .and .i64 (c : Int) 63 = (m : Nat) := by rw [and_63 c, hmE]
  have HMS : Hid (∀ W : World, Calls Tryd.prog 21 #[.int .i64 (cfg : Nat)] W fun e w' => e = .returned (.int .i64 (ms : Nat)) ∧ w' = W) := fun W => by rw [← hmsE]; exact rms_any cfg (by omega) W
  have y1 : Hid True := trivial
  have hm0 : ((m : Int) == 0) = false := beq_eq_false_iff_ne.2 (by omega)
  have HP : Hid ((m : Int) * (ms : Int) = ((m * ms : Nat) : Int)) := (Int.natCast_mul m ms).symm
  have hmul : m * ms ≤ 1260 := Nat.le_trans (Nat.mul_le_mul b2 b3) (by decide)
  have hp0 : 0 ≤ (m : Int) * (ms : Int) ∧ (m : Int) * (ms : Int) ≤ 1260 := by rw [HP.out]; omega
  have hA2 : bits .and .i64 (c : Int) 64 = 64 := by rw [and_64 c hc256, if_pos hpb]; rfl
  have d6 : decide (120 < (m : Int) * (ms : Int)) = false := decide_eq_false (by rw [HP.out]; omega)
  have HN : Hid (manyN (msN cfg) (c :: r) = none) := by
    show _ = _
    rw [hmsE]
    cases hp : padN r 0 with
    | none => exact manyN_pad_no hmE hm hl hpb hp
    | some y => obtain ⟨p, r1⟩ := y; exact manyN_pad_great hmE hm hl hpb hp (hbad p r1 hp)
  have HBAD : Hid (∀ p r1, padN r 0 = some (p, r1) → ¬ p ≤ r1.length) := hbad
  obtain ⟨L, HLL⟩ : ∃ L, Hid (r.length = L) := ⟨_, rfl⟩
  have hL : L ≤ 140737488351232 := by have h1 := h.few; have h2 := HLL.out; simp only [List.length_cons] at h1; omega
  clear h hc256 hmE hmsE hcfg hl hmul hpb hm hbad
  go_enter Tryd.func35, Tryd.ntmps35
  go_wp2_with (first
    | (go_at_call 32; clear y1; go_loud (refine (one_yes g a0 n0 c0 bs c r w0 _ HM0.out.tak).mono ?_; rintro e w1 ⟨rfl, ht1, ho1⟩; have HM1 : Hid (Mpk w0 w g q a0 n0 c0 bs (cfg : Nat) ch w1 r (.slice none 0 0) 0 []) := HM0.out.took ho1 ht1; obtain ⟨t1, f1, f0⟩ := HM1.out.taker; obtain ⟨x0, x2, x3, e2, e3⟩ := HM1.out.boxed; clear ht1 ho1))
    | (go_at_call 21; go_loud (refine (HMS.out _).mono ?_; rintro e w2 ⟨rfl, hw2⟩; rw [hw2]; clear hw2)))
  go_loopg [6] L (fun k cv W => Hid (∃ (r4 : List Nat) (pd : Nat), r4.length = k ∧ Mpk w0 w g q a0 n0 c0 bs (cfg : Nat) ch W r4 (.slice none 0 0) ((pd : Nat) : Int) [] ∧ padN r4 pd = padN r 0 ∧ pd + 254 * k ≤ 254 * L))
  case atStart => exact ⟨r, 0, HLL.out, HM1.out, rfl, by omega⟩
  case round =>
    clear HM1 t1 f1 f0 x0 x2 x3 e2 e3
    obtain ⟨r4, pd, k1, k2, k3, k4⟩ := hrel.out
    have HMr : Hid (Mpk w0 w g q a0 n0 c0 bs (cfg : Nat) ch wr r4 (.slice none 0 0) ((pd : Nat) : Int) []) := k2
    have hbytes := k2.small
    have HK1 : Hid (r4.length = gk) := k1
    have HK3 : Hid (padN r4 pd = padN r 0) := k3
    have hpd : pd ≤ 35747322041212928 := by omega
    clear hrel k1 k2 k3
    cases r4 with
    | nil =>
      go_wp2_with (first
        | (go_at_call 32; go_loud (refine (one_no g a0 n0 c0 bs false w0 _ HMr.out.tak).mono ?_; rintro e w3 ⟨rfl, ht3, ho3⟩; have HB3 : Hid (Bd w0 w g q a0 n0 c0 bs w3) := HMr.out.bad ho3 ht3.tk; obtain ⟨t1, f1⟩ := HB3.out.cells; have hbx := ho3.four HMr.out.box HMr.out.ne.symm; obtain ⟨_, _, _, x3⟩ := hbx.cells; have e3 : w3.frozen? ⟨q, 3, none⟩ = false := (by unfold Four at hbx; simp [World.frozen?, hbx]); have HB4 : Hid (∀ u, Bd w0 w g q a0 n0 c0 bs (w3.setCell ⟨q, 3, none⟩ u)) := fun u => HB3.out.setQ HB.out.2.2 HMr.out.q0 HB.out.2.1 3 u; have t1s := fun u => (HB4.out u).cells.1; have f1s := fun u => (HB4.out u).cells.2; clear ht3 ho3 hbx)))
      go_quiet (fail)
      go_wp2
      refine bodyPost_ret (results_none rfl _ _ _) rfl ?_
      exact ⟨rfl, .no HN.out (((HB4.out _).drewN _).setBad)⟩
    | cons xp r5 =>
      have hx256 : xp < 256 := hbytes xp (by simp)
      have b8 : (0 : Int) ≤ xp := by omega
      have b9 : xp ≤ 255 := by omega
      clear hbytes hx256
      by_cases hx : xp = 255
      · subst hx
        have HE : Hid (padN r5 (pd + 254) = padN r 0) := by show _ = _; rw [← padN_255]; exact HK3.out
        obtain ⟨k, rfl⟩ : ∃ k, gk = k + 1 := ⟨r5.length, by have := HK1.out; simpa using this.symm⟩
        have HK5 : Hid (r5.length = k) := by have h9 := HK1.out; show _ = _; simpa using h9
        clear b8 b9 HK1 HK3
        go_wp2_with (first
          | (go_at_call 32; go_loud (refine (one_yes g a0 n0 c0 bs 255 r5 w0 _ HMr.out.tak).mono ?_; rintro e w3 ⟨rfl, ht3, ho3⟩; have HM3 : Hid (Mpk w0 w g q a0 n0 c0 bs (cfg : Nat) ch w3 r5 (.slice none 0 0) ((pd : Nat) : Int) []) := HMr.out.took ho3 ht3; obtain ⟨t1, f1, f0⟩ := HM3.out.taker; obtain ⟨x0, x2, x3, e2, e3⟩ := HM3.out.boxed; clear ht3 ho3)))
        go_roundg k
        case measure => omega
        case rel => exact ⟨r5, pd + 254, HK5.out, HM3.out.setPad ((pd : Int) + 254), HE.out, by omega⟩
      have hpl : ¬ pd + xp ≤ r5.length := HBAD.out (pd + xp) r5 (HK3.out.symm.trans (padN_low hx r5 pd))
      obtain ⟨ln, HLN⟩ : ∃ ln, Hid (r5.length = ln) := ⟨_, rfl⟩
      have hpl2 : ¬ pd + xp ≤ ln := by rw [← HLN.out]; exact hpl
      have bs1 : ((ln : Int) < (pd : Int) + (xp : Int)) = True := eq_true (by omega)
      have hgq : g ≠ q := HB.out.2.2
      have dx : decide ((xp : Int) < 255) = true := decide_eq_true (by omega)
      clear hpl hx
      go_wp2_with (first
        | (go_at_call 32; go_loud (refine (one_yes g a0 n0 c0 bs xp r5 w0 _ HMr.out.tak).mono ?_; rintro e w3 ⟨rfl, ht3, ho3⟩; have HM3 : Hid (Mpk w0 w g q a0 n0 c0 bs (cfg : Nat) ch w3 r5 (.slice none 0 0) ((pd : Nat) : Int) []) := HMr.out.took ho3 ht3; obtain ⟨x0, x2, x3, e2, e3⟩ := HM3.out.boxed; have HM4 : Hid (Mpk w0 w g q a0 n0 c0 bs (cfg : Nat) ch (w3.setCell ⟨q, 3, none⟩ (.int .i64 ((pd : Int) + (xp : Int)))) r5 (.slice none 0 0) ((pd : Int) + (xp : Int)) []) := HM3.out.setPad _; obtain ⟨t1, f1, f0⟩ := HM4.out.taker; obtain ⟨z0, z2, z3, ez2, ez3⟩ := HM4.out.boxed; obtain ⟨ra, rn, rc, hrn, hroom, hsz, htk, hsub, hbs, hgs, hqs⟩ := HM4.out.know; obtain rfl : rn = ln := (by have := HLN.out; omega); have t0 := htk.cells.1; clear hrn htk hsub hbs ht3 ho3)))
      go_quiet (fail)
      go_wp2
      refine bodyPost_ret (results_none rfl _ _ _) rfl ?_
      exact ⟨rfl, .no HN.out (HM4.out.drewN _).setBad⟩

end Go.Proofs.YtgiellpepnbpcaaDoor
