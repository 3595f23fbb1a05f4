/- What the document's own many comes to: some ways. (Laid by wip/mkmany.py.) -/
import Derived.Test.YtgiellpepnbpcaaDoorTocZg
import Derived.Deep.RegionLaw
import Derived.Deep.LoopGhost
import Derived.Deep.RegionWith
namespace Go.Proofs.YtgiellpepnbpcaaDoor
open Go.RowKit

set_option maxRecDepth 100000 in
set_option maxHeartbeats 1500000 in
theorem many_pad_told (g q : Nat) (a0 : Option Addr) (n0 c0 : Nat) (bs : List Nat) (cfg : Nat) (ch : Int) (c : Nat) (r : List Nat) (w0 w : World) (h : Mpk w0 w g q a0 n0 c0 bs (cfg : Nat) ch w (c :: r) (.slice none 0 0) 0 []) (hcfg : cfg ≤ 11) (m ms : Nat) (hmE : c % 64 = m) (hmsE : msN cfg = ms) (hm : ¬ m = 0) (hl : ¬ 120 < m * ms) (hpb : c / 64 % 2 = 1) (htb : c / 128 % 2 = 1) (p : Nat) (r1 r2 : List Nat) (hp : padN r 0 = some (p, r1)) (hle : p ≤ r1.length) (hr2 : r1.take (r1.length - p) = r2)  :
    Calls Tryd.prog 35 #[.pointer (some ⟨g, 0, none⟩), .pointer (some ⟨q, 0, none⟩)] w fun e w' => e = .returned (.tuple #[]) ∧ ManyR w0 w g q a0 n0 c0 bs (cfg : Nat) ch (msN cfg) (c :: r) w' := by
  have HM0 : Hid (Mpk w0 w g q a0 n0 c0 bs (cfg : Nat) ch w (c :: r) (.slice none 0 0) 0 []) := h
  have HB : Hid (g < w.heap.size ∧ q < w.heap.size ∧ g ≠ q) := ⟨h.gB, h.qB, h.ne⟩
  have hc256 : c < 256 := by obtain ⟨_, _, _, _, _, _, _, _, hb, _⟩ := h.know; exact hb.row.small c (by simp)
  have b0 : (0 : Int) ≤ c := by omega
  have b1 : c ≤ 255 := by omega
  have b2 : m ≤ 63 := by omega
  have b3 : ms ≤ 20 := by have := (msN_in cfg).2; omega
  have bm : (0 : Int) ≤ m := by omega
  have hA : bits .and .i64 (c : Int) 63 = (m : Nat) := by rw [and_63 c, hmE]
  have HMS : Hid (∀ W : World, Calls Tryd.prog 21 #[.int .i64 (cfg : Nat)] W fun e w' => e = .returned (.int .i64 (ms : Nat)) ∧ w' = W) := fun W => by rw [← hmsE]; exact rms_any cfg (by omega) W
  have y1 : Hid True := trivial
  have hm0 : ((m : Int) == 0) = false := beq_eq_false_iff_ne.2 (by omega)
  have HP : Hid ((m : Int) * (ms : Int) = ((m * ms : Nat) : Int)) := (Int.natCast_mul m ms).symm
  have hmul : m * ms ≤ 1260 := Nat.le_trans (Nat.mul_le_mul b2 b3) (by decide)
  have hp0 : 0 ≤ (m : Int) * (ms : Int) ∧ (m : Int) * (ms : Int) ≤ 1260 := by rw [HP.out]; omega
  have hA2 : bits .and .i64 (c : Int) 64 = 64 := by rw [and_64 c hc256, if_pos hpb]; rfl
  have hA3 : bits .and .i64 (c : Int) 128 = 128 := by rw [and_128 c hc256, if_pos htb]; rfl
  have d6 : decide (120 < (m : Int) * (ms : Int)) = false := decide_eq_false (by rw [HP.out]; omega)
  have HNB : Hid (∀ x, bodyN m true r2 = x → manyN (msN cfg) (c :: r) = x.map fun fs => (fs, p)) := fun x hx => by rw [hmsE, manyN_padded hmE hm hl hpb (by first | exact decide_eq_true htb | exact decide_eq_false htb) hp hle, hr2, hx]
  have HNN : Hid (lensN (m - 1) r2 = none → manyN (msN cfg) (c :: r) = none) := fun hx => by rw [HNB.out none (bodyN_told hx)]; rfl
  have HNG : Hid (∀ l r', lensN (m - 1) r2 = some (l, r') → ¬ sumN l ≤ r'.length → manyN (msN cfg) (c :: r) = none) := fun l r' hx hy => by
    rw [HNB.out none (by rw [bodyN_told hx]; exact if_neg hy)]; rfl
  have HNS : Hid (∀ l r', lensN (m - 1) r2 = some (l, r') → sumN l ≤ r'.length → manyN (msN cfg) (c :: r) = some (cutN l r', p)) := fun l r' hx hy => by
    rw [HNB.out (some (cutN l r')) (by rw [bodyN_told hx]; exact if_pos hy)]; rfl
  have hm1 : 1 ≤ m := by omega
  have bm1 : (0 : Int) ≤ (m : Int) - 1 := by omega
  have HPN : Hid (padN r 0 = some (p, r1)) := hp
  have HLE : Hid (p ≤ r1.length) := hle
  have HRR : Hid (r1.take (r1.length - p) = r2) := hr2
  obtain ⟨L, HLL⟩ : ∃ L, Hid (r.length = L) := ⟨_, rfl⟩
  have hL : L ≤ 140737488351232 := by have h1 := h.few; have h2 := HLL.out; simp only [List.length_cons] at h1; omega
  clear h hc256 hmE hmsE hcfg hl hmul hpb htb HNB hm hp hle hr2
  go_enter Tryd.func35, Tryd.ntmps35
  go_wp2_with (first
    | (go_at_call 32; clear y1; go_loud (refine (one_yes g a0 n0 c0 bs c r w0 _ HM0.out.tak).mono ?_; rintro e w1 ⟨rfl, ht1, ho1⟩; have HM1 : Hid (Mpk w0 w g q a0 n0 c0 bs (cfg : Nat) ch w1 r (.slice none 0 0) 0 []) := HM0.out.took ho1 ht1; obtain ⟨t1, f1, f0⟩ := HM1.out.taker; obtain ⟨x0, x2, x3, e2, e3⟩ := HM1.out.boxed; clear ht1 ho1))
    | (go_at_call 21; go_loud (refine (HMS.out _).mono ?_; rintro e w2 ⟨rfl, hw2⟩; rw [hw2]; clear hw2)))
  go_loopg [6] L (fun k cv W => Hid (∃ (r4 : List Nat) (pd : Nat), r4.length = k ∧ Mpk w0 w g q a0 n0 c0 bs (cfg : Nat) ch W r4 (.slice none 0 0) ((pd : Nat) : Int) [] ∧ padN r4 pd = padN r 0 ∧ pd + 254 * k ≤ 254 * L))
  case atStart => exact ⟨r, 0, HLL.out, HM1.out, rfl, by omega⟩
  case round =>
    clear HM1 t1 f1 f0 x0 x2 x3 e2 e3
    obtain ⟨r4, pd, k1, k2, k3, k4⟩ := hrel.out
    have HMr : Hid (Mpk w0 w g q a0 n0 c0 bs (cfg : Nat) ch wr r4 (.slice none 0 0) ((pd : Nat) : Int) []) := k2
    have hbytes := k2.small
    have HK1 : Hid (r4.length = gk) := k1
    have HK3 : Hid (padN r4 pd = padN r 0) := k3
    have hpd : pd ≤ 35747322041212928 := by omega
    clear hrel k1 k2 k3
    cases r4 with
    | nil =>
      have h2 : some (p, r1) = (none : Option (Nat × List Nat)) := HPN.out.symm.trans HK3.out.symm
      cases h2
    | cons xp r5 =>
      have hx256 : xp < 256 := hbytes xp (by simp)
      have b8 : (0 : Int) ≤ xp := by omega
      have b9 : xp ≤ 255 := by omega
      clear hbytes hx256
      by_cases hx : xp = 255
      · subst hx
        have HE : Hid (padN r5 (pd + 254) = padN r 0) := by show _ = _; rw [← padN_255]; exact HK3.out
        obtain ⟨k, rfl⟩ : ∃ k, gk = k + 1 := ⟨r5.length, by have := HK1.out; simpa using this.symm⟩
        have HK5 : Hid (r5.length = k) := by have h9 := HK1.out; show _ = _; simpa using h9
        clear b8 b9 HK1 HK3
        go_wp2_with (first
          | (go_at_call 32; go_loud (refine (one_yes g a0 n0 c0 bs 255 r5 w0 _ HMr.out.tak).mono ?_; rintro e w3 ⟨rfl, ht3, ho3⟩; have HM3 : Hid (Mpk w0 w g q a0 n0 c0 bs (cfg : Nat) ch w3 r5 (.slice none 0 0) ((pd : Nat) : Int) []) := HMr.out.took ho3 ht3; obtain ⟨t1, f1, f0⟩ := HM3.out.taker; obtain ⟨x0, x2, x3, e2, e3⟩ := HM3.out.boxed; clear ht3 ho3)))
        go_roundg k
        case measure => omega
        case rel => exact ⟨r5, pd + 254, HK5.out, HM3.out.setPad ((pd : Int) + 254), HE.out, by omega⟩
      obtain ⟨hpx, hr5⟩ : p = pd + xp ∧ r1 = r5 := by
        have h9 := HPN.out.symm.trans (HK3.out.symm.trans (padN_low hx r5 pd))
        simp only [Option.some.injEq, Prod.mk.injEq] at h9
        exact h9
      subst hr5
      have HPX : Hid ((pd : Int) + (xp : Int) = ((p : Nat) : Int)) := by show _ = _; omega
      have hpl : pd + xp ≤ r1.length := by rw [← hpx]; exact HLE.out
      obtain ⟨ln, HLN⟩ : ∃ ln, Hid (r1.length = ln) := ⟨_, rfl⟩
      have hpl2 : pd + xp ≤ ln := by rw [← HLN.out]; exact hpl
      have hln : ln ≤ 140737488351232 := by have h1 := HMr.out.few; have h2 := HLN.out; simp only [List.length_cons] at h1; omega
      have bs1 : ((ln : Int) < (pd : Int) + (xp : Int)) = False := eq_false (by omega)
      have bs2 : (0 : Int) ≤ (ln : Int) - ((pd : Int) + (xp : Int)) := by omega
      have bs3 : (ln : Int) - ((pd : Int) + (xp : Int)) ≤ ln := by omega
      have HR2 : Hid (r1.take (ln - (pd + xp)) = r2) := by show _ = _; rw [← HLN.out, ← hpx]; exact HRR.out
      have hgq : g ≠ q := HB.out.2.2
      have dx : decide ((xp : Int) < 255) = true := decide_eq_true (by omega)
      have hqg : q ≠ g := fun e => hgq e.symm
      clear hpl hpx hx
      go_wp2_with (first
        | (go_at_call 32; go_loud (refine (one_yes g a0 n0 c0 bs xp r1 w0 _ HMr.out.tak).mono ?_; rintro e w3 ⟨rfl, ht3, ho3⟩; have HM3 : Hid (Mpk w0 w g q a0 n0 c0 bs (cfg : Nat) ch w3 r1 (.slice none 0 0) ((pd : Nat) : Int) []) := HMr.out.took ho3 ht3; obtain ⟨x0, x2, x3, e2, e3⟩ := HM3.out.boxed; have HM4 : Hid (Mpk w0 w g q a0 n0 c0 bs (cfg : Nat) ch (w3.setCell ⟨q, 3, none⟩ (.int .i64 ((pd : Int) + (xp : Int)))) r1 (.slice none 0 0) ((pd : Int) + (xp : Int)) []) := HM3.out.setPad _; obtain ⟨t1, f1, f0⟩ := HM4.out.taker; obtain ⟨z0, z2, z3, ez2, ez3⟩ := HM4.out.boxed; obtain ⟨ra, rn, rc, hrn, hroom, hsz, htk, hsub, hbs, hgs, hqs⟩ := HM4.out.know; obtain rfl : rn = ln := (by have := HLN.out; omega); have t0 := htk.cells.1; have HK4 : Hid (Tk (w3.setCell ⟨q, 3, none⟩ (.int .i64 ((pd : Int) + (xp : Int)))) g ra rn rc false ∧ Sub a0 n0 c0 bs ra rn rc r1) := ⟨htk, hsub⟩; obtain ⟨a2, n2, c2, hn2, hs2, hq1, hq2⟩ := hbs.upto (rn - (pd + xp)) ((rn : Int) - ((pd : Int) + (xp : Int))) (by omega) (by omega); have HS2 : Hid (Sub ra rn rc r1 a2 n2 c2 r2 ∧ n2 = rn - (pd + xp)) := ⟨HR2.out ▸ hs2, hn2⟩; have HM6 : Hid (∀ k : Nat, Mpk w0 w g q a0 n0 c0 bs (cfg : Nat) ch (((w3.setCell ⟨q, 3, none⟩ (.int .i64 ((pd : Int) + (xp : Int)))).drewN k).setCell ⟨g, 0, none⟩ (.slice a2 n2 c2)) r2 (.slice none 0 0) ((pd : Int) + (xp : Int)) []) := fun k => (HM4.out.drewN k).cut HK4.out.1 (HK4.out.2.trans HS2.out.1); clear hrn htk hsub hbs hs2 hn2 ht3 ho3)))
      go_quiet (fail)
      go_wp2
      refine' Code.wp_mono (Q := AtN _ _) (AtN.goes ?hq) ?h
      case h =>
        go_region
        all_goals exact ⟨rfl, rfl⟩
      go_wp2
      go_loopw [9, 10, 11] (fun lv sv i W => ∃ j T : Nat, j + 1 ≤ m ∧ i = .int .i64 j ∧ sv = .int .i64 T ∧ T ≤ 1275 * j ∧ Hid (∃ l r3 : List Nat, l.length = j ∧ sumN l = T ∧ MidLn (m - 1) r2 l r3 ∧ Mpk w0 w g q a0 n0 c0 bs (cfg : Nat) ch W r3 (.slice none 0 0) ((pd : Int) + (xp : Int)) [] ∧ W.ownsRow w.heap.size 3 1 lv j ((ints l).map (Value.int .i64)))) (fun _ _ i _ => m - (intOf i).toNat)
      case atStart => exact ⟨0, 0, by omega, rfl, rfl, by omega, [], r2, rfl, rfl, MidLn.start _ _, (HM6.out _), World.ownsRow_nil _ _ _ _⟩
      case round =>
        obtain ⟨j, T, hj, rfl, rfl, hT, HR⟩ := hrel
        obtain ⟨l, r3, k1, k2, k3, k4, k5⟩ := HR.out
        have HMr : Hid (Mpk w0 w g q a0 n0 c0 bs (cfg : Nat) ch wr r3 (.slice none 0 0) ((pd : Int) + (xp : Int)) []) := k4
        have HI : Hid (wr.ownsRow w.heap.size 3 1 u9 j ((ints l).map (Value.int .i64))) := k5
        have HG : Hid (l.length = j ∧ sumN l = T ∧ MidLn (m - 1) r2 l r3) := ⟨k1, k2, k3⟩
        have hsmall := k4.small
        have HJ : Hid (j + 1 ≤ m) := hj
        clear k1 k2 k3 k4 k5 HR
        have bT : T ≤ 80325 := by omega
        by_cases hlt : j + 1 < m
        · have hlt2 : (j : Int) < (m : Int) - 1 := by omega
          have bj : (j : Int) < (j : Int) + 1 := by omega
          have HLT : Hid (j + 1 < m) := hlt
          cases ht : takeLen r3 with
          | none =>
            have HT : Hid (takeLen r3 = none) := ht
            have HN : Hid (manyN (msN cfg) (c :: r) = none) := HNN.out (HG.out.2.2.stop (by have := HG.out.1; omega) ht)
            clear ht hlt hsmall
            go_wp2_with (first
              | (go_at_call 34; go_loud (refine (length_any g a0 n0 c0 bs false r3 w0 _ HMr.out.tak).mono ?_; rintro e w3 ⟨he, ho3⟩; obtain ⟨x, r4, rfl, ht3, hx⟩ := he.elim_no HT.out; have HB3 : Hid (Bd w0 w g q a0 n0 c0 bs w3) := HMr.out.bad ho3 ht3; have HI3 : Hid (w3.ownsRow w.heap.size 3 1 u9 j ((ints l).map (Value.int .i64))) := own_only HI.out ho3 HB.out.1; clear he ho3 ht3))
              | (at_builtin; go_loud (refine wpList_append_one (w := w3) 55 3 Tryd.underlying55 info_int w.heap.size _ j (ints l) _ HI3.out (by omega) HB3.out.size rfl _ _ rfl rfl rfl ?_; rw [← ints_snoc]; intro v' w4 hown4 hb4; obtain ⟨_, a9, c9, hv9, hn9⟩ := NewRow.of_owned hown4; subst hv9; obtain ⟨gb, hgb, _, _, hcs⟩ := hn9.cells (by rw [ints_len, List.length_append]; simp); subst hgb; have hcell := hcs j (by rw [ints_len, List.length_append, HG.out.1]; simp); rw [ints_at, List.getElem?_append_right (by rw [HG.out.1]; omega), HG.out.1, Nat.sub_self] at hcell; replace hcell : w4.cell? ⟨gb, j, none⟩ = some (.int .i64 (x : Nat)) := hcell; have HB4 : Hid (Bd w0 w g q a0 n0 c0 bs w4) := HB3.out.below hb4 HB.out.1; obtain ⟨t4, f4⟩ := HB4.out.cells; clear hown4 hb4 hn9 hcs)))
            refine bodyPost_ret (results_none rfl _ _ _) rfl ?_
            exact ⟨rfl, .no HN.out HB4.out⟩
          | some q9 =>
            obtain ⟨x, r4⟩ := q9
            have HT : Hid (takeLen r3 = some (x, r4)) := ht
            have hx : x ≤ 1275 := takeLen_small hsmall ht
            have bx : (0 : Int) ≤ x := by omega
            clear ht hlt hsmall
            go_wp2_with (first
              | (go_at_call 34; go_loud (refine (length_any g a0 n0 c0 bs false r3 w0 _ HMr.out.tak).mono ?_; rintro e w3 ⟨he, ho3⟩; obtain ⟨rfl, ht3⟩ := he.elim HT.out; have HM3 : Hid (Mpk w0 w g q a0 n0 c0 bs (cfg : Nat) ch w3 r4 (.slice none 0 0) ((pd : Int) + (xp : Int)) []) := HMr.out.call ho3 ht3; have HI3 : Hid (w3.ownsRow w.heap.size 3 1 u9 j ((ints l).map (Value.int .i64))) := own_only HI.out ho3 HB.out.1; clear he ho3 ht3))
              | (at_builtin; go_loud (refine wpList_append_one (w := w3) 55 3 Tryd.underlying55 info_int w.heap.size _ j (ints l) _ HI3.out (by omega) HM3.out.size rfl _ _ rfl rfl rfl ?_; rw [← ints_snoc]; intro v' w4 hown4 hb4; have HI4 : Hid (w4.ownsRow w.heap.size 3 1 v' (j + 1) ((ints (l ++ [x])).map (Value.int .i64))) := hown4; obtain ⟨_, a9, c9, hv9, hn9⟩ := NewRow.of_owned hown4; subst hv9; obtain ⟨gb, hgb, _, _, hcs⟩ := hn9.cells (by rw [ints_len, List.length_append]; simp); subst hgb; have hcell := hcs j (by rw [ints_len, List.length_append, HG.out.1]; simp); rw [ints_at, List.getElem?_append_right (by rw [HG.out.1]; omega), HG.out.1, Nat.sub_self] at hcell; replace hcell : w4.cell? ⟨gb, j, none⟩ = some (.int .i64 (x : Nat)) := hcell; have HM4 : Hid (Mpk w0 w g q a0 n0 c0 bs (cfg : Nat) ch w4 r4 (.slice none 0 0) ((pd : Int) + (xp : Int)) []) := HM3.out.nil_below hb4; obtain ⟨t4, f4, _⟩ := HM4.out.taker; clear hown4 hb4 hn9 hcs)))
            go_roundw
            case rel => exact ⟨j + 1, T + x, HLT.out, by go_num, by go_num, by omega, l ++ [x], r4, by rw [List.length_append, HG.out.1]; rfl, by rw [sumN_snoc, HG.out.2.1], HG.out.2.2.step (by have := HG.out.1; have := HLT.out; omega) HT.out, HM4.out, HI4.out⟩
            case measure => simp [intOf]; have := HLT.out; omega
        · have HM : Hid (m = j + 1) := (by show _ = _; omega)
          have hne : ¬ (j : Int) < (m : Int) - 1 := by omega
          have HL : Hid (lensN (m - 1) r2 = some (l, r3)) := HG.out.2.2.all (by have := HG.out.1; have := HM.out; omega)
          obtain ⟨_, a9, c9, hv9, _⟩ := NewRow.of_owned HI.out
          subst hv9
          obtain ⟨ra, rn, rc, hrn, hroom, hsz, htk, hsub, hbs, hgs, hqs⟩ := HMr.out.know
          have t0 := htk.cells.1
          obtain ⟨t1, f1, f0⟩ := HMr.out.taker
          have HRN : Hid (rn = r3.length) := hrn
          clear hlt hsmall hrn htk hsub hbs
          by_cases hs : T ≤ rn
          · have HN : Hid (manyN (msN cfg) (c :: r) = some (cutN l r3, p)) := HNS.out l r3 HL.out (by rw [HG.out.2.1, ← HRN.out]; exact hs)
            have HS : Hid (T ≤ rn) := hs
            have bs1 : ((rn : Int) < (T : Int)) = False := eq_false (by omega)
            have bs2 : (rn < T) = False := eq_false (by omega)
            clear hs
            go_wp2
            go_loopw [12] (fun i W => ∃ j2 : Nat, j2 ≤ j ∧ i = .int .i64 j2 ∧ Hid (∃ r4 v fs, Mpk w0 w g q a0 n0 c0 bs (cfg : Nat) ch W r4 v ((pd : Int) + (xp : Int)) fs ∧ fs.length = j2 ∧ fs ++ cutN (l.drop j2) r4 = cutN l r3 ∧ sumN (l.drop j2) ≤ r4.length ∧ W.ownsRow w.heap.size 3 1 (.slice a9 j c9) j ((ints l).map (Value.int .i64)))) (fun i _ => j - (intOf i).toNat)
            case atStart => exact ⟨0, Nat.zero_le _, rfl, r3, _, _, HMr.out, rfl, rfl, by rw [List.drop_zero, HG.out.2.1, ← HRN.out]; exact HS.out, HI.out⟩
            case round =>
              obtain ⟨j2, hj2, rfl, HR⟩ := hrel
              obtain ⟨r4, v, fs, k1, k2, k3, k4, k5⟩ := HR.out
              clear HMr HI t0 t1 f1 f0
              have HMr : Hid (Mpk w0 w g q a0 n0 c0 bs (cfg : Nat) ch wr r4 v ((pd : Int) + (xp : Int)) fs) := k1
              have HI : Hid (wr.ownsRow w.heap.size 3 1 (.slice a9 j c9) j ((ints l).map (Value.int .i64))) := k5
              obtain ⟨x0, x2, x3, e2, e3⟩ := k1.boxed
              have HF : Hid (fs.length = j2 ∧ fs ++ cutN (l.drop j2) r4 = cutN l r3 ∧ sumN (l.drop j2) ≤ r4.length) := ⟨k2, k3, k4⟩
              clear k1 k2 k3 k4 k5 HR
              by_cases hlt : j2 < j
              · have e1 := cutN_step (r := r4) HG.out.1 hlt
                have e4 := sumN_step HG.out.1 hlt
                obtain ⟨_, a8', c8', hv9, hn9⟩ := NewRow.of_owned HI.out
                cases hv9
                obtain ⟨gb, hgb, _, _, hcs⟩ := hn9.cells (by rw [ints_len, HG.out.1]; omega)
                subst hgb
                have hcell := hcs j2 (by rw [ints_len, HG.out.1]; exact hlt)
                rw [ints_at] at hcell
                generalize l[j2]?.getD 0 = x at *
                have HKL : Hid (x ≤ r4.length) := (by have := HF.out.2.2; show _ ≤ _; omega)
                have HC : Hid (fs ++ (r4.take x :: cutN (l.drop (j2 + 1)) (r4.drop x)) = cutN l r3 ∧ x + sumN (l.drop (j2 + 1)) ≤ r4.length) := ⟨by rw [← e1]; exact HF.out.2.1, by rw [← e4]; exact HF.out.2.2⟩
                have HJ2 : Hid (j2 < j) := hlt
                have bx : (0 : Int) ≤ x := by omega
                have bj1 : (j2 : Int) < (m : Int) - 1 := by have := HM.out; omega
                have bj2 : (0 : Int) ≤ j2 := by omega
                have bj3 : (j2 : Int) < j := by omega
                clear e1 e4 hcs hn9
                go_wp2
                go_region_law (first
                  | (go_simp; go_at_call 33; go_loud (refine (some_any g a0 n0 c0 bs false r4 x w0 _ HMr.out.drew.tak HKL.out).mono ?_; rintro e w3 ⟨⟨a8, c8, rfl, ho8⟩, ht8, hon8⟩; have HM3 : Hid (Mpk w0 w g q a0 n0 c0 bs (cfg : Nat) ch w3 (r4.drop x) v ((pd : Int) + (xp : Int)) fs) := HMr.out.drew.took hon8 ht8; have HO8 : Hid (w3.ownsRow wr.drew.heap.size 5 1 (.slice a8 x c8) x (bvals (r4.take x))) := (by have h9 : w3.ownsRow wr.drew.heap.size 5 1 (.slice a8 x c8) (r4.take x).length (bvals (r4.take x)) := ho8; rw [List.length_take_of_le HKL.out] at h9; exact h9); have hx3 := HM3.out.boxed.2.1; have hx3a := HM3.out.boxedA; have HI3 : Hid (w3.ownsRow w.heap.size 3 1 (.slice (some ⟨gb, 0, none⟩) j c9) j ((ints l).map (Value.int .i64))) := own_only (ownsRow_of_block (w' := wr.drew) HI.out (fun _ _ => rfl)) hon8 HB.out.1; clear ho8 ht8 hon8))
                  | (refine step_push_frame w.heap.size v fs a8 x c8 (r4.take x) w3.heap.size (HM3.out.alloc _).fr (ob_cast ((ownsRow_mono HO8.out HMr.out.drew.size).alloc _) rfl (List.length_take_of_le HKL.out).symm) (List.length_take_of_le HKL.out) (fun k' hk' => HMr.out.drew.fresh HO8.out k' hk') (fun y hy => HMr.out.small y (List.mem_of_mem_take hy)) (by have := HKL.out; have := HMr.out.few; omega) (by have := HF.out.1; omega) (HM3.out.alloc _).size (heap_alloc_new w3 _) rfl (.tmp 180) (.tmp 187) (by rfl) (by rfl) (by rfl) ?_; intro g6 c6 w6 hF6 hb6 hg6; have hgb := (HM3.out.alloc (.cells #[.slice a8 x c8] 29)).grownBox hb6; obtain ⟨hc6, hf6⟩ := hgb; have HMS6 : Hid (Mpk w0 w g q a0 n0 c0 bs (cfg : Nat) ch (w6.setCell ⟨q, 2, none⟩ (.slice (some ⟨g6, 0, none⟩) (fs.length + 1) c6)) (r4.drop x) (.slice (some ⟨g6, 0, none⟩) (fs.length + 1) c6) ((pd : Int) + (xp : Int)) (fs ++ [r4.take x])) := (HM3.out.alloc (.cells #[.slice a8 x c8] 29)).push hb6 hF6; have HI6 : Hid ((w6.setCell ⟨q, 2, none⟩ (.slice (some ⟨g6, 0, none⟩) (fs.length + 1) c6)).ownsRow w.heap.size 3 1 (.slice (some ⟨gb, 0, none⟩) j c9) j ((ints l).map (Value.int .i64))) := ints_stay (HM3.out.alloc _).fr (HI3.out.alloc _) hg6 HB.out.2.1 _ _; clear hF6 hb6 hg6))
                all_goals
                  go_wp2
                  go_roundw
                  case rel => exact ⟨j2 + 1, HJ2.out, by go_num, r4.drop x, _, fs ++ [r4.take x], HMS6.out, by rw [List.length_append, HF.out.1]; rfl, by rw [List.append_assoc]; exact HC.out.1, by rw [List.length_drop]; have := HC.out.2; omega, HI6.out⟩
                  case measure => simp [intOf]; omega
              · obtain rfl : j2 = j := by omega
                obtain ⟨ra', rn', rc', hrn, hroom', hsz', htk, hsub, hbs, hgs', hqs'⟩ := HMr.out.know
                have t0 := htk.cells.1
                have HRN2 : Hid (rn' = r4.length) := hrn
                have HKL : Hid (rn' ≤ r4.length) := (by show _ ≤ _; omega)
                have bj1 : ¬ (j2 : Int) < (m : Int) - 1 := by have := HM.out; omega
                have HE : Hid (fs ++ [r4.take rn'] = cutN l r3) := by
                  show _ = _
                  rw [← HF.out.2.1, HRN2.out, List.take_length, List.drop_of_length_le (by rw [HG.out.1]; exact Nat.le_refl _)]
                  rfl
                clear hrn htk hsub hbs hlt
                go_wp2
                go_region_law (first
                  | (go_simp; go_at_call 33; go_loud (refine (some_any g a0 n0 c0 bs false r4 rn' w0 _ HMr.out.drew.tak HKL.out).mono ?_; rintro e w3 ⟨⟨a8, c8, rfl, ho8⟩, ht8, hon8⟩; have HM3 : Hid (Mpk w0 w g q a0 n0 c0 bs (cfg : Nat) ch w3 (r4.drop rn') v ((pd : Int) + (xp : Int)) fs) := HMr.out.drew.took hon8 ht8; have HO8 : Hid (w3.ownsRow wr.drew.heap.size 5 1 (.slice a8 rn' c8) rn' (bvals (r4.take rn'))) := (by have h9 : w3.ownsRow wr.drew.heap.size 5 1 (.slice a8 rn' c8) (r4.take rn').length (bvals (r4.take rn')) := ho8; rw [List.length_take_of_le HKL.out] at h9; exact h9); have hx3 := HM3.out.boxed.2.1; have hx3a := HM3.out.boxedA; clear ho8 ht8 hon8))
                  | (refine step_push_frame w.heap.size v fs a8 rn' c8 (r4.take rn') w3.heap.size (HM3.out.alloc _).fr (ob_cast ((ownsRow_mono HO8.out HMr.out.drew.size).alloc _) rfl (List.length_take_of_le HKL.out).symm) (List.length_take_of_le HKL.out) (fun k' hk' => HMr.out.drew.fresh HO8.out k' hk') (fun y hy => HMr.out.small y (List.mem_of_mem_take hy)) (by have := HKL.out; have := HMr.out.few; omega) (by have := HF.out.1; omega) (HM3.out.alloc _).size (heap_alloc_new w3 _) rfl (.tmp 195) (.tmp 203) (by rfl) (by rfl) (by rfl) ?_; intro g6 c6 w6 hF6 hb6 hg6; have hgb := (HM3.out.alloc (.cells #[.slice a8 rn' c8] 29)).grownBox hb6; obtain ⟨hc6, hf6⟩ := hgb; have HMS6 : Hid (Mpk w0 w g q a0 n0 c0 bs (cfg : Nat) ch (w6.setCell ⟨q, 2, none⟩ (.slice (some ⟨g6, 0, none⟩) (fs.length + 1) c6)) (r4.drop rn') (.slice (some ⟨g6, 0, none⟩) (fs.length + 1) c6) ((pd : Int) + (xp : Int)) (fs ++ [r4.take rn'])) := (HM3.out.alloc (.cells #[.slice a8 rn' c8] 29)).push hb6 hF6; clear hF6 hb6 hg6))
                all_goals
                  go_end0
                  exact ⟨rfl, .yes (by rw [HN.out, ← HE.out]) (by have h9 := HMS6.out; rw [HPX.out] at h9; exact h9)⟩
          · have HN : Hid (manyN (msN cfg) (c :: r) = none) := HNG.out l r3 HL.out (by rw [HG.out.2.1, ← HRN.out]; exact hs)
            have bs1 : ((rn : Int) < (T : Int)) = True := eq_true (by omega)
            have bs2 : (rn < T) = True := eq_true (by omega)
            clear hs
            go_wp2
            refine bodyPost_ret (results_none rfl _ _ _) rfl ?_
            exact ⟨rfl, .no HN.out HMr.out.setBad⟩

end Go.Proofs.YtgiellpepnbpcaaDoor
