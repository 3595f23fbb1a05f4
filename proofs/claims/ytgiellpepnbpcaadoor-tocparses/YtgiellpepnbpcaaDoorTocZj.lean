/- What the document's own many comes to: some ways. (Laid by wip/mkmany.py.) -/
import Derived.Test.YtgiellpepnbpcaaDoorTocZg
import Derived.Deep.RegionLaw
import Derived.Deep.LoopGhost
import Derived.Deep.RegionWith
namespace Go.Proofs.YtgiellpepnbpcaaDoor
open Go.RowKit

set_option maxRecDepth 100000 in
set_option maxHeartbeats 1500000 in
theorem many_pad_even_bad (g q : Nat) (a0 : Option Addr) (n0 c0 : Nat) (bs : List Nat) (cfg : Nat) (ch : Int) (c : Nat) (r : List Nat) (w0 w : World) (h : Mpk w0 w g q a0 n0 c0 bs (cfg : Nat) ch w (c :: r) (.slice none 0 0) 0 []) (hcfg : cfg ≤ 11) (m ms : Nat) (hmE : c % 64 = m) (hmsE : msN cfg = ms) (hm : ¬ m = 0) (hl : ¬ 120 < m * ms) (hpb : c / 64 % 2 = 1) (htb : ¬ c / 128 % 2 = 1) (p : Nat) (r1 r2 : List Nat) (hp : padN r 0 = some (p, r1)) (hle : p ≤ r1.length) (hr2 : r1.take (r1.length - p) = r2) (he : r2.length % m ≠ 0) :
    Calls Tryd.prog 35 #[.pointer (some ⟨g, 0, none⟩), .pointer (some ⟨q, 0, none⟩)] w fun e w' => e = .returned (.tuple #[]) ∧ ManyR w0 w g q a0 n0 c0 bs (cfg : Nat) ch (msN cfg) (c :: r) w' := by
  have HM0 : Hid (Mpk w0 w g q a0 n0 c0 bs (cfg : Nat) ch w (c :: r) (.slice none 0 0) 0 []) := h
  have HB : Hid (g < w.heap.size ∧ q < w.heap.size ∧ g ≠ q) := ⟨h.gB, h.qB, h.ne⟩
  have hc256 : c < 256 := by obtain ⟨_, _, _, _, _, _, _, _, hb, _⟩ := h.know; exact hb.row.small c (by simp)
  have b0 : (0 : Int) ≤ c := by omega
  have b1 : c ≤ 255 := by omega
  have b2 : m ≤ 63 := by omega
  have b3 : ms ≤ 20 := by have := (msN_in cfg).2; omega
  have bm : (0 : Int) ≤ m := by omega
  have hA : bits .and .i64 (c : Int) 63 = (m : Nat) := by rw [and_63 c, hmE]
  have HMS : Hid (∀ W : World, Calls Tryd.prog 21 #[.int .i64 (cfg : Nat)] W fun e w' => e = .returned (.int .i64 (ms : Nat)) ∧ w' = W) := fun W => by rw [← hmsE]; exact rms_any cfg (by omega) W
  have y1 : Hid True := trivial
  have hm0 : ((m : Int) == 0) = false := beq_eq_false_iff_ne.2 (by omega)
  have HP : Hid ((m : Int) * (ms : Int) = ((m * ms : Nat) : Int)) := (Int.natCast_mul m ms).symm
  have hmul : m * ms ≤ 1260 := Nat.le_trans (Nat.mul_le_mul b2 b3) (by decide)
  have hp0 : 0 ≤ (m : Int) * (ms : Int) ∧ (m : Int) * (ms : Int) ≤ 1260 := by rw [HP.out]; omega
  have hA2 : bits .and .i64 (c : Int) 64 = 64 := by rw [and_64 c hc256, if_pos hpb]; rfl
  have hA3 : bits .and .i64 (c : Int) 128 = 0 := by rw [and_128 c hc256, if_neg htb]; rfl
  have d6 : decide (120 < (m : Int) * (ms : Int)) = false := decide_eq_false (by rw [HP.out]; omega)
  have HNB : Hid (∀ x, bodyN m false r2 = x → manyN (msN cfg) (c :: r) = x.map fun fs => (fs, p)) := fun x hx => by rw [hmsE, manyN_padded hmE hm hl hpb (by first | exact decide_eq_true htb | exact decide_eq_false htb) hp hle, hr2, hx]
  obtain ⟨rb, HRB⟩ : ∃ rb, Hid (r2.length = rb) := ⟨_, rfl⟩
  have hmz : ¬ (m : Int) = 0 := by omega
  have HN : Hid (manyN (msN cfg) (c :: r) = none) := by
    show _ = _
    rw [HNB.out none (by unfold bodyN; rw [if_neg (by simp), if_neg he])]; rfl
  have b6 : ((rb : Int) % (m : Int) != 0) = true := bne_iff_ne.2 (by have h3 : rb % m ≠ 0 := (by rw [← HRB.out]; exact he); omega)
  have HPN : Hid (padN r 0 = some (p, r1)) := hp
  have HLE : Hid (p ≤ r1.length) := hle
  have HRR : Hid (r1.take (r1.length - p) = r2) := hr2
  obtain ⟨L, HLL⟩ : ∃ L, Hid (r.length = L) := ⟨_, rfl⟩
  have hL : L ≤ 140737488351232 := by have h1 := h.few; have h2 := HLL.out; simp only [List.length_cons] at h1; omega
  clear h hc256 hmE hmsE hcfg hl hmul he hpb htb hp hle hr2
  go_enter Tryd.func35, Tryd.ntmps35
  go_wp2_with (first
    | (go_at_call 32; clear y1; go_loud (refine (one_yes g a0 n0 c0 bs c r w0 _ HM0.out.tak).mono ?_; rintro e w1 ⟨rfl, ht1, ho1⟩; have HM1 : Hid (Mpk w0 w g q a0 n0 c0 bs (cfg : Nat) ch w1 r (.slice none 0 0) 0 []) := HM0.out.took ho1 ht1; obtain ⟨t1, f1, f0⟩ := HM1.out.taker; obtain ⟨x0, x2, x3, e2, e3⟩ := HM1.out.boxed; clear ht1 ho1))
    | (go_at_call 21; go_loud (refine (HMS.out _).mono ?_; rintro e w2 ⟨rfl, hw2⟩; rw [hw2]; clear hw2)))
  go_loopg [6] L (fun k cv W => Hid (∃ (r4 : List Nat) (pd : Nat), r4.length = k ∧ Mpk w0 w g q a0 n0 c0 bs (cfg : Nat) ch W r4 (.slice none 0 0) ((pd : Nat) : Int) [] ∧ padN r4 pd = padN r 0 ∧ pd + 254 * k ≤ 254 * L))
  case atStart => exact ⟨r, 0, HLL.out, HM1.out, rfl, by omega⟩
  case round =>
    clear HM1 t1 f1 f0 x0 x2 x3 e2 e3
    obtain ⟨r4, pd, k1, k2, k3, k4⟩ := hrel.out
    have HMr : Hid (Mpk w0 w g q a0 n0 c0 bs (cfg : Nat) ch wr r4 (.slice none 0 0) ((pd : Nat) : Int) []) := k2
    have hbytes := k2.small
    have HK1 : Hid (r4.length = gk) := k1
    have HK3 : Hid (padN r4 pd = padN r 0) := k3
    have hpd : pd ≤ 35747322041212928 := by omega
    clear hrel k1 k2 k3
    cases r4 with
    | nil =>
      have h2 : some (p, r1) = (none : Option (Nat × List Nat)) := HPN.out.symm.trans HK3.out.symm
      cases h2
    | cons xp r5 =>
      have hx256 : xp < 256 := hbytes xp (by simp)
      have b8 : (0 : Int) ≤ xp := by omega
      have b9 : xp ≤ 255 := by omega
      clear hbytes hx256
      by_cases hx : xp = 255
      · subst hx
        have HE : Hid (padN r5 (pd + 254) = padN r 0) := by show _ = _; rw [← padN_255]; exact HK3.out
        obtain ⟨k, rfl⟩ : ∃ k, gk = k + 1 := ⟨r5.length, by have := HK1.out; simpa using this.symm⟩
        have HK5 : Hid (r5.length = k) := by have h9 := HK1.out; show _ = _; simpa using h9
        clear b8 b9 HK1 HK3
        go_wp2_with (first
          | (go_at_call 32; go_loud (refine (one_yes g a0 n0 c0 bs 255 r5 w0 _ HMr.out.tak).mono ?_; rintro e w3 ⟨rfl, ht3, ho3⟩; have HM3 : Hid (Mpk w0 w g q a0 n0 c0 bs (cfg : Nat) ch w3 r5 (.slice none 0 0) ((pd : Nat) : Int) []) := HMr.out.took ho3 ht3; obtain ⟨t1, f1, f0⟩ := HM3.out.taker; obtain ⟨x0, x2, x3, e2, e3⟩ := HM3.out.boxed; clear ht3 ho3)))
        go_roundg k
        case measure => omega
        case rel => exact ⟨r5, pd + 254, HK5.out, HM3.out.setPad ((pd : Int) + 254), HE.out, by omega⟩
      obtain ⟨hpx, hr5⟩ : p = pd + xp ∧ r1 = r5 := by
        have h9 := HPN.out.symm.trans (HK3.out.symm.trans (padN_low hx r5 pd))
        simp only [Option.some.injEq, Prod.mk.injEq] at h9
        exact h9
      subst hr5
      have HPX : Hid ((pd : Int) + (xp : Int) = ((p : Nat) : Int)) := by show _ = _; omega
      have hpl : pd + xp ≤ r1.length := by rw [← hpx]; exact HLE.out
      obtain ⟨ln, HLN⟩ : ∃ ln, Hid (r1.length = ln) := ⟨_, rfl⟩
      have hpl2 : pd + xp ≤ ln := by rw [← HLN.out]; exact hpl
      have hln : ln ≤ 140737488351232 := by have h1 := HMr.out.few; have h2 := HLN.out; simp only [List.length_cons] at h1; omega
      have bs1 : ((ln : Int) < (pd : Int) + (xp : Int)) = False := eq_false (by omega)
      have bs2 : (0 : Int) ≤ (ln : Int) - ((pd : Int) + (xp : Int)) := by omega
      have bs3 : (ln : Int) - ((pd : Int) + (xp : Int)) ≤ ln := by omega
      have HR2 : Hid (r1.take (ln - (pd + xp)) = r2) := by show _ = _; rw [← HLN.out, ← hpx]; exact HRR.out
      have hgq : g ≠ q := HB.out.2.2
      have dx : decide ((xp : Int) < 255) = true := decide_eq_true (by omega)
      have hqg : q ≠ g := fun e => hgq e.symm
      clear hpl hpx hx
      go_wp2_with (first
        | (go_at_call 32; go_loud (refine (one_yes g a0 n0 c0 bs xp r1 w0 _ HMr.out.tak).mono ?_; rintro e w3 ⟨rfl, ht3, ho3⟩; have HM3 : Hid (Mpk w0 w g q a0 n0 c0 bs (cfg : Nat) ch w3 r1 (.slice none 0 0) ((pd : Nat) : Int) []) := HMr.out.took ho3 ht3; obtain ⟨x0, x2, x3, e2, e3⟩ := HM3.out.boxed; have HM4 : Hid (Mpk w0 w g q a0 n0 c0 bs (cfg : Nat) ch (w3.setCell ⟨q, 3, none⟩ (.int .i64 ((pd : Int) + (xp : Int)))) r1 (.slice none 0 0) ((pd : Int) + (xp : Int)) []) := HM3.out.setPad _; obtain ⟨t1, f1, f0⟩ := HM4.out.taker; obtain ⟨z0, z2, z3, ez2, ez3⟩ := HM4.out.boxed; obtain ⟨ra, rn, rc, hrn, hroom, hsz, htk, hsub, hbs, hgs, hqs⟩ := HM4.out.know; obtain rfl : rn = ln := (by have := HLN.out; omega); have t0 := htk.cells.1; have HK4 : Hid (Tk (w3.setCell ⟨q, 3, none⟩ (.int .i64 ((pd : Int) + (xp : Int)))) g ra rn rc false ∧ Sub a0 n0 c0 bs ra rn rc r1) := ⟨htk, hsub⟩; obtain ⟨a2, n2, c2, hn2, hs2, hq1, hq2⟩ := hbs.upto (rn - (pd + xp)) ((rn : Int) - ((pd : Int) + (xp : Int))) (by omega) (by omega); have HS2 : Hid (Sub ra rn rc r1 a2 n2 c2 r2 ∧ n2 = rn - (pd + xp)) := ⟨HR2.out ▸ hs2, hn2⟩; obtain rfl : n2 = rb := (by have h9 := (HS2.out.1 _ hbs).len; have h10 := HRB.out; omega); have HM6 : Hid (∀ k : Nat, Mpk w0 w g q a0 n0 c0 bs (cfg : Nat) ch (((w3.setCell ⟨q, 3, none⟩ (.int .i64 ((pd : Int) + (xp : Int)))).drewN k).setCell ⟨g, 0, none⟩ (.slice a2 n2 c2)) r2 (.slice none 0 0) ((pd : Int) + (xp : Int)) []) := fun k => (HM4.out.drewN k).cut HK4.out.1 (HK4.out.2.trans HS2.out.1); clear hrn htk hsub hbs hs2 hn2 ht3 ho3)))
      go_quiet (fail)
      go_wp2
      refine' Code.wp_mono (Q := AtN _ _) (AtN.goes ?hq) ?h
      case h =>
        go_region
        all_goals exact ⟨rfl, rfl⟩
      go_wp2
      refine bodyPost_ret (results_none rfl _ _ _) rfl ?_
      exact ⟨rfl, .no HN.out (HM6.out _).setBad⟩

set_option maxRecDepth 100000 in
set_option maxHeartbeats 1500000 in
theorem many_pad_even_ok (g q : Nat) (a0 : Option Addr) (n0 c0 : Nat) (bs : List Nat) (cfg : Nat) (ch : Int) (c : Nat) (r : List Nat) (w0 w : World) (h : Mpk w0 w g q a0 n0 c0 bs (cfg : Nat) ch w (c :: r) (.slice none 0 0) 0 []) (hcfg : cfg ≤ 11) (m ms : Nat) (hmE : c % 64 = m) (hmsE : msN cfg = ms) (hm : ¬ m = 0) (hl : ¬ 120 < m * ms) (hpb : c / 64 % 2 = 1) (htb : ¬ c / 128 % 2 = 1) (p : Nat) (r1 r2 : List Nat) (hp : padN r 0 = some (p, r1)) (hle : p ≤ r1.length) (hr2 : r1.take (r1.length - p) = r2) (he : r2.length % m = 0) :
    Calls Tryd.prog 35 #[.pointer (some ⟨g, 0, none⟩), .pointer (some ⟨q, 0, none⟩)] w fun e w' => e = .returned (.tuple #[]) ∧ ManyR w0 w g q a0 n0 c0 bs (cfg : Nat) ch (msN cfg) (c :: r) w' := by
  have HM0 : Hid (Mpk w0 w g q a0 n0 c0 bs (cfg : Nat) ch w (c :: r) (.slice none 0 0) 0 []) := h
  have HB : Hid (g < w.heap.size ∧ q < w.heap.size ∧ g ≠ q) := ⟨h.gB, h.qB, h.ne⟩
  have hc256 : c < 256 := by obtain ⟨_, _, _, _, _, _, _, _, hb, _⟩ := h.know; exact hb.row.small c (by simp)
  have b0 : (0 : Int) ≤ c := by omega
  have b1 : c ≤ 255 := by omega
  have b2 : m ≤ 63 := by omega
  have b3 : ms ≤ 20 := by have := (msN_in cfg).2; omega
  have bm : (0 : Int) ≤ m := by omega
  have hA : bits .and .i64 (c : Int) 63 = (m : Nat) := by rw [and_63 c, hmE]
  have HMS : Hid (∀ W : World, Calls Tryd.prog 21 #[.int .i64 (cfg : Nat)] W fun e w' => e = .returned (.int .i64 (ms : Nat)) ∧ w' = W) := fun W => by rw [← hmsE]; exact rms_any cfg (by omega) W
  have y1 : Hid True := trivial
  have hm0 : ((m : Int) == 0) = false := beq_eq_false_iff_ne.2 (by omega)
  have HP : Hid ((m : Int) * (ms : Int) = ((m * ms : Nat) : Int)) := (Int.natCast_mul m ms).symm
  have hmul : m * ms ≤ 1260 := Nat.le_trans (Nat.mul_le_mul b2 b3) (by decide)
  have hp0 : 0 ≤ (m : Int) * (ms : Int) ∧ (m : Int) * (ms : Int) ≤ 1260 := by rw [HP.out]; omega
  have hA2 : bits .and .i64 (c : Int) 64 = 64 := by rw [and_64 c hc256, if_pos hpb]; rfl
  have hA3 : bits .and .i64 (c : Int) 128 = 0 := by rw [and_128 c hc256, if_neg htb]; rfl
  have d6 : decide (120 < (m : Int) * (ms : Int)) = false := decide_eq_false (by rw [HP.out]; omega)
  have HNB : Hid (∀ x, bodyN m false r2 = x → manyN (msN cfg) (c :: r) = x.map fun fs => (fs, p)) := fun x hx => by rw [hmsE, manyN_padded hmE hm hl hpb (by first | exact decide_eq_true htb | exact decide_eq_false htb) hp hle, hr2, hx]
  obtain ⟨rb, HRB⟩ : ∃ rb, Hid (r2.length = rb) := ⟨_, rfl⟩
  have hmz : ¬ (m : Int) = 0 := by omega
  obtain ⟨k, HK⟩ : ∃ k, Hid (rb / m = k) := ⟨_, rfl⟩
  have HQ : Hid ((rb : Int) / (m : Int) = (k : Nat)) := by rw [← HK.out]; rfl
  have hrb : rb ≤ 140737488351232 := by have h1 := h.few; have h2 := HRB.out; have h3 := padN_len r 0 hp; have h4 : r2.length ≤ r1.length := (by rw [← hr2]; exact List.length_take_le' _ _); simp only [List.length_cons] at h1; omega
  have hq : 0 ≤ (rb : Int) / (m : Int) ∧ (rb : Int) / (m : Int) ≤ rb := ⟨Int.ediv_nonneg (by omega) (by omega), Int.ediv_le_self _ (by omega)⟩
  have hkb : k ≤ 140737488351232 := by have h1 := HK.out; have := Nat.div_le_self rb m; omega
  have HW : Hid (IntKind.i64.wrap (k : Int) = (k : Int)) := wrap_nat k (by omega)
  have HL : Hid (rb = m * k) := by have h1 := Nat.div_add_mod rb m; have h2 := HK.out; have h3 : rb % m = 0 := (by rw [← HRB.out]; exact he); rw [h2, h3] at h1; show _ = _; omega
  have HN : Hid (manyN (msN cfg) (c :: r) = some (evenN m k r2, p)) := by
    show _ = _
    rw [HNB.out (some (evenN m k r2)) (by unfold bodyN; rw [if_neg (by simp), if_pos he, HRB.out, HK.out])]; rfl
  have b6 : ((rb : Int) % (m : Int) != 0) = false := by have h3 : rb % m = 0 := (by rw [← HRB.out]; exact he); have h4 : (rb : Int) % (m : Int) = 0 := (by omega); rw [h4]; rfl
  have HPN : Hid (padN r 0 = some (p, r1)) := hp
  have HLE : Hid (p ≤ r1.length) := hle
  have HRR : Hid (r1.take (r1.length - p) = r2) := hr2
  obtain ⟨L, HLL⟩ : ∃ L, Hid (r.length = L) := ⟨_, rfl⟩
  have hL : L ≤ 140737488351232 := by have h1 := h.few; have h2 := HLL.out; simp only [List.length_cons] at h1; omega
  clear h hc256 hmE hmsE hcfg hl hmul he hpb htb hp hle hr2
  go_enter Tryd.func35, Tryd.ntmps35
  go_wp2_with (first
    | (go_at_call 32; clear y1; go_loud (refine (one_yes g a0 n0 c0 bs c r w0 _ HM0.out.tak).mono ?_; rintro e w1 ⟨rfl, ht1, ho1⟩; have HM1 : Hid (Mpk w0 w g q a0 n0 c0 bs (cfg : Nat) ch w1 r (.slice none 0 0) 0 []) := HM0.out.took ho1 ht1; obtain ⟨t1, f1, f0⟩ := HM1.out.taker; obtain ⟨x0, x2, x3, e2, e3⟩ := HM1.out.boxed; clear ht1 ho1))
    | (go_at_call 21; go_loud (refine (HMS.out _).mono ?_; rintro e w2 ⟨rfl, hw2⟩; rw [hw2]; clear hw2)))
  go_loopg [6] L (fun k cv W => Hid (∃ (r4 : List Nat) (pd : Nat), r4.length = k ∧ Mpk w0 w g q a0 n0 c0 bs (cfg : Nat) ch W r4 (.slice none 0 0) ((pd : Nat) : Int) [] ∧ padN r4 pd = padN r 0 ∧ pd + 254 * k ≤ 254 * L))
  case atStart => exact ⟨r, 0, HLL.out, HM1.out, rfl, by omega⟩
  case round =>
    clear HM1 t1 f1 f0 x0 x2 x3 e2 e3
    obtain ⟨r4, pd, k1, k2, k3, k4⟩ := hrel.out
    have HMr : Hid (Mpk w0 w g q a0 n0 c0 bs (cfg : Nat) ch wr r4 (.slice none 0 0) ((pd : Nat) : Int) []) := k2
    have hbytes := k2.small
    have HK1 : Hid (r4.length = gk) := k1
    have HK3 : Hid (padN r4 pd = padN r 0) := k3
    have hpd : pd ≤ 35747322041212928 := by omega
    clear hrel k1 k2 k3
    cases r4 with
    | nil =>
      have h2 : some (p, r1) = (none : Option (Nat × List Nat)) := HPN.out.symm.trans HK3.out.symm
      cases h2
    | cons xp r5 =>
      have hx256 : xp < 256 := hbytes xp (by simp)
      have b8 : (0 : Int) ≤ xp := by omega
      have b9 : xp ≤ 255 := by omega
      clear hbytes hx256
      by_cases hx : xp = 255
      · subst hx
        have HE : Hid (padN r5 (pd + 254) = padN r 0) := by show _ = _; rw [← padN_255]; exact HK3.out
        obtain ⟨k, rfl⟩ : ∃ k, gk = k + 1 := ⟨r5.length, by have := HK1.out; simpa using this.symm⟩
        have HK5 : Hid (r5.length = k) := by have h9 := HK1.out; show _ = _; simpa using h9
        clear b8 b9 HK1 HK3
        go_wp2_with (first
          | (go_at_call 32; go_loud (refine (one_yes g a0 n0 c0 bs 255 r5 w0 _ HMr.out.tak).mono ?_; rintro e w3 ⟨rfl, ht3, ho3⟩; have HM3 : Hid (Mpk w0 w g q a0 n0 c0 bs (cfg : Nat) ch w3 r5 (.slice none 0 0) ((pd : Nat) : Int) []) := HMr.out.took ho3 ht3; obtain ⟨t1, f1, f0⟩ := HM3.out.taker; obtain ⟨x0, x2, x3, e2, e3⟩ := HM3.out.boxed; clear ht3 ho3)))
        go_roundg k
        case measure => omega
        case rel => exact ⟨r5, pd + 254, HK5.out, HM3.out.setPad ((pd : Int) + 254), HE.out, by omega⟩
      obtain ⟨hpx, hr5⟩ : p = pd + xp ∧ r1 = r5 := by
        have h9 := HPN.out.symm.trans (HK3.out.symm.trans (padN_low hx r5 pd))
        simp only [Option.some.injEq, Prod.mk.injEq] at h9
        exact h9
      subst hr5
      have HPX : Hid ((pd : Int) + (xp : Int) = ((p : Nat) : Int)) := by show _ = _; omega
      have hpl : pd + xp ≤ r1.length := by rw [← hpx]; exact HLE.out
      obtain ⟨ln, HLN⟩ : ∃ ln, Hid (r1.length = ln) := ⟨_, rfl⟩
      have hpl2 : pd + xp ≤ ln := by rw [← HLN.out]; exact hpl
      have hln : ln ≤ 140737488351232 := by have h1 := HMr.out.few; have h2 := HLN.out; simp only [List.length_cons] at h1; omega
      have bs1 : ((ln : Int) < (pd : Int) + (xp : Int)) = False := eq_false (by omega)
      have bs2 : (0 : Int) ≤ (ln : Int) - ((pd : Int) + (xp : Int)) := by omega
      have bs3 : (ln : Int) - ((pd : Int) + (xp : Int)) ≤ ln := by omega
      have HR2 : Hid (r1.take (ln - (pd + xp)) = r2) := by show _ = _; rw [← HLN.out, ← hpx]; exact HRR.out
      have hgq : g ≠ q := HB.out.2.2
      have dx : decide ((xp : Int) < 255) = true := decide_eq_true (by omega)
      have hqg : q ≠ g := fun e => hgq e.symm
      clear hpl hpx hx
      go_wp2_with (first
        | (go_at_call 32; go_loud (refine (one_yes g a0 n0 c0 bs xp r1 w0 _ HMr.out.tak).mono ?_; rintro e w3 ⟨rfl, ht3, ho3⟩; have HM3 : Hid (Mpk w0 w g q a0 n0 c0 bs (cfg : Nat) ch w3 r1 (.slice none 0 0) ((pd : Nat) : Int) []) := HMr.out.took ho3 ht3; obtain ⟨x0, x2, x3, e2, e3⟩ := HM3.out.boxed; have HM4 : Hid (Mpk w0 w g q a0 n0 c0 bs (cfg : Nat) ch (w3.setCell ⟨q, 3, none⟩ (.int .i64 ((pd : Int) + (xp : Int)))) r1 (.slice none 0 0) ((pd : Int) + (xp : Int)) []) := HM3.out.setPad _; obtain ⟨t1, f1, f0⟩ := HM4.out.taker; obtain ⟨z0, z2, z3, ez2, ez3⟩ := HM4.out.boxed; obtain ⟨ra, rn, rc, hrn, hroom, hsz, htk, hsub, hbs, hgs, hqs⟩ := HM4.out.know; obtain rfl : rn = ln := (by have := HLN.out; omega); have t0 := htk.cells.1; have HK4 : Hid (Tk (w3.setCell ⟨q, 3, none⟩ (.int .i64 ((pd : Int) + (xp : Int)))) g ra rn rc false ∧ Sub a0 n0 c0 bs ra rn rc r1) := ⟨htk, hsub⟩; obtain ⟨a2, n2, c2, hn2, hs2, hq1, hq2⟩ := hbs.upto (rn - (pd + xp)) ((rn : Int) - ((pd : Int) + (xp : Int))) (by omega) (by omega); have HS2 : Hid (Sub ra rn rc r1 a2 n2 c2 r2 ∧ n2 = rn - (pd + xp)) := ⟨HR2.out ▸ hs2, hn2⟩; obtain rfl : n2 = rb := (by have h9 := (HS2.out.1 _ hbs).len; have h10 := HRB.out; omega); have HM6 : Hid (∀ k : Nat, Mpk w0 w g q a0 n0 c0 bs (cfg : Nat) ch (((w3.setCell ⟨q, 3, none⟩ (.int .i64 ((pd : Int) + (xp : Int)))).drewN k).setCell ⟨g, 0, none⟩ (.slice a2 n2 c2)) r2 (.slice none 0 0) ((pd : Int) + (xp : Int)) []) := fun k => (HM4.out.drewN k).cut HK4.out.1 (HK4.out.2.trans HS2.out.1); clear hrn htk hsub hbs hs2 hn2 ht3 ho3)))
      go_quiet (fail)
      go_wp2
      refine' Code.wp_mono (Q := AtN _ _) (AtN.goes ?hq) ?h
      case h =>
        go_region
        all_goals exact ⟨rfl, rfl⟩
      go_wp2
      go_loopw [8] (fun i W => ∃ j : Nat, j ≤ m ∧ i = .int .i64 j ∧ Hid (∃ r3 v fs, Mpk w0 w g q a0 n0 c0 bs (cfg : Nat) ch W r3 v ((pd : Int) + (xp : Int)) fs ∧ fs.length = j ∧ fs ++ evenN (m - j) k r3 = evenN m k r2 ∧ r3.length = (m - j) * k)) (fun i _ => m - (intOf i).toNat)
      case atStart => exact ⟨0, Nat.zero_le _, rfl, r2, _, _, (HM6.out _), rfl, by rw [Nat.sub_zero]; rfl, by rw [HRB.out, HL.out, Nat.sub_zero]⟩
      case round =>
        obtain ⟨j, hj, rfl, HR⟩ := hrel
        obtain ⟨r3, v, fs, k1, k2, k3, k4⟩ := HR.out
        have HMr : Hid (Mpk w0 w g q a0 n0 c0 bs (cfg : Nat) ch wr r3 v ((pd : Int) + (xp : Int)) fs) := k1
        obtain ⟨x0, x2, x3, e2, e3⟩ := k1.boxed
        have HF : Hid (fs.length = j ∧ fs ++ evenN (m - j) k r3 = evenN m k r2 ∧ r3.length = (m - j) * k) := ⟨k2, k3, k4⟩
        clear k1 k2 k3 k4 HR
        by_cases hlt : j < m
        · have hk : k ≤ r3.length := by
            rw [HF.out.2.2, show m - j = (m - (j + 1)) + 1 by omega, Nat.add_mul]; omega
          have HKL : Hid (k ≤ r3.length) := hk
          have HJ : Hid (j < m) := hlt
          clear hk
          go_wp2
          go_region_law (first
            | (go_simp; go_at_call 33; go_loud (rw [HQ.out, HW.out]; refine (some_any g a0 n0 c0 bs false r3 k w0 _ HMr.out.drew.tak HKL.out).mono ?_; rintro e w3 ⟨⟨a8, c8, rfl, ho8⟩, ht8, hon8⟩; have HM3 : Hid (Mpk w0 w g q a0 n0 c0 bs (cfg : Nat) ch w3 (r3.drop k) v ((pd : Int) + (xp : Int)) fs) := HMr.out.drew.took hon8 ht8; have HO8 : Hid (w3.ownsRow wr.drew.heap.size 5 1 (.slice a8 k c8) k (bvals (r3.take k))) := (by have h9 : w3.ownsRow wr.drew.heap.size 5 1 (.slice a8 k c8) (r3.take k).length (bvals (r3.take k)) := ho8; rw [List.length_take_of_le HKL.out] at h9; exact h9); have hx3 := HM3.out.boxed.2.1; have hx3a := HM3.out.boxedA; clear ho8 ht8 hon8))
            | (refine step_push_frame w.heap.size v fs a8 k c8 (r3.take k) w3.heap.size (HM3.out.alloc _).fr (ob_cast ((ownsRow_mono HO8.out HMr.out.drew.size).alloc _) rfl (List.length_take_of_le HKL.out).symm) (List.length_take_of_le HKL.out) (fun k' hk' => HMr.out.drew.fresh HO8.out k' hk') (fun y hy => HMr.out.small y (List.mem_of_mem_take hy)) (by have := HKL.out; have := HMr.out.few; omega) (by have := HF.out.1; omega) (HM3.out.alloc _).size (heap_alloc_new w3 _) rfl (.tmp 129) (.tmp 135) (by rfl) (by rfl) (by rfl) ?_; intro g6 c6 w6 hF6 hb6 hg6; have hgb := (HM3.out.alloc (.cells #[.slice a8 k c8] 29)).grownBox hb6; obtain ⟨hc6, hf6⟩ := hgb; have HMS6 : Hid (Mpk w0 w g q a0 n0 c0 bs (cfg : Nat) ch (w6.setCell ⟨q, 2, none⟩ (.slice (some ⟨g6, 0, none⟩) (fs.length + 1) c6)) (r3.drop k) (.slice (some ⟨g6, 0, none⟩) (fs.length + 1) c6) ((pd : Int) + (xp : Int)) (fs ++ [r3.take k])) := (HM3.out.alloc (.cells #[.slice a8 k c8] 29)).push hb6 hF6; clear hF6 hb6 hg6))
          all_goals
            go_wp2
            go_roundw
            case rel => exact ⟨j + 1, HJ.out, by go_num, r3.drop k, _, fs ++ [r3.take k], HMS6.out, by rw [List.length_append, HF.out.1]; rfl, by rw [List.append_assoc, ← HF.out.2.1, evenN_step HJ.out]; rfl, by rw [List.length_drop, HF.out.2.2, show m - j = (m - (j + 1)) + 1 by have := HJ.out; omega, Nat.add_mul]; omega⟩
            case measure => simp [intOf]; omega
        · obtain rfl : j = m := by omega
          have HE : Hid (fs = evenN j k r2) := by
            show _ = _
            have := HF.out.2.1
            rw [Nat.sub_self] at this
            rw [← this]
            show fs = fs ++ []
            rw [List.append_nil]
          go_wp2
          refine bodyPost_ret (results_none rfl _ _ _) rfl ?_
          exact ⟨rfl, .yes (by rw [HN.out, ← HE.out]) (by have h9 := HMr.out; rw [HPX.out] at h9; exact h9)⟩

end Go.Proofs.YtgiellpepnbpcaaDoor
