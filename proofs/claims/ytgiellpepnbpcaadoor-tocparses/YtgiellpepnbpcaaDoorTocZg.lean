/- What the document's own many comes to: some ways. (Laid by wip/mkmany.py.) -/
import Derived.Test.YtgiellpepnbpcaaDoorTocZf
import Derived.Deep.RegionLaw
import Derived.Deep.LoopGhost
import Derived.Deep.RegionWith
namespace Go.Proofs.YtgiellpepnbpcaaDoor
open Go.RowKit

set_option maxRecDepth 100000 in
set_option maxHeartbeats 1500000 in
theorem many_even_bad (g q : Nat) (a0 : Option Addr) (n0 c0 : Nat) (bs : List Nat) (cfg : Nat) (ch : Int) (c : Nat) (r : List Nat) (w0 w : World) (h : Mpk w0 w g q a0 n0 c0 bs (cfg : Nat) ch w (c :: r) (.slice none 0 0) 0 []) (hcfg : cfg ≤ 11) (m ms : Nat) (hmE : c % 64 = m) (hmsE : msN cfg = ms) (hm : ¬ m = 0) (hl : ¬ 120 < m * ms) (hpb : ¬ c / 64 % 2 = 1) (htb : ¬ c / 128 % 2 = 1) (he : r.length % m ≠ 0) :
    Calls Tryd.prog 35 #[.pointer (some ⟨g, 0, none⟩), .pointer (some ⟨q, 0, none⟩)] w fun e w' => e = .returned (.tuple #[]) ∧ ManyR w0 w g q a0 n0 c0 bs (cfg : Nat) ch (msN cfg) (c :: r) w' := by
  have HM0 : Hid (Mpk w0 w g q a0 n0 c0 bs (cfg : Nat) ch w (c :: r) (.slice none 0 0) 0 []) := h
  have HB : Hid (g < w.heap.size ∧ q < w.heap.size ∧ g ≠ q) := ⟨h.gB, h.qB, h.ne⟩
  have hc256 : c < 256 := by obtain ⟨_, _, _, _, _, _, _, _, hb, _⟩ := h.know; exact hb.row.small c (by simp)
  have b0 : (0 : Int) ≤ c := by omega
  have b1 : c ≤ 255 := by omega
  have b2 : m ≤ 63 := by omega
  have b3 : ms ≤ 20 := by have := (msN_in cfg).2; omega
  have bm : (0 : Int) ≤ m := by omega
  have hA : bits .and .i64 (c : Int) 63 = (m : Nat) := by rw [and_63 c, hmE]
  have HMS : Hid (∀ W : World, Calls Tryd.prog 21 #[.int .i64 (cfg : Nat)] W fun e w' => e = .returned (.int .i64 (ms : Nat)) ∧ w' = W) := fun W => by rw [← hmsE]; exact rms_any cfg (by omega) W
  have y1 : Hid True := trivial
  have hm0 : ((m : Int) == 0) = false := beq_eq_false_iff_ne.2 (by omega)
  have HP : Hid ((m : Int) * (ms : Int) = ((m * ms : Nat) : Int)) := (Int.natCast_mul m ms).symm
  have hmul : m * ms ≤ 1260 := Nat.le_trans (Nat.mul_le_mul b2 b3) (by decide)
  have hp0 : 0 ≤ (m : Int) * (ms : Int) ∧ (m : Int) * (ms : Int) ≤ 1260 := by rw [HP.out]; omega
  have hA2 : bits .and .i64 (c : Int) 64 = 0 := by rw [and_64 c hc256, if_neg hpb]; rfl
  have hA3 : bits .and .i64 (c : Int) 128 = 0 := by rw [and_128 c hc256, if_neg htb]; rfl
  have d6 : decide (120 < (m : Int) * (ms : Int)) = false := decide_eq_false (by rw [HP.out]; omega)
  have HNB : Hid (∀ x, bodyN m false r = x → manyN (msN cfg) (c :: r) = x.map fun fs => (fs, 0)) := fun x hx => by rw [hmsE, manyN_plain hmE hm hl hpb (by first | exact decide_eq_true htb | exact decide_eq_false htb), hx]
  obtain ⟨rb, HRB⟩ : ∃ rb, Hid (r.length = rb) := ⟨_, rfl⟩
  have hmz : ¬ (m : Int) = 0 := by omega
  have HN : Hid (manyN (msN cfg) (c :: r) = none) := by
    show _ = _
    rw [HNB.out none (by unfold bodyN; rw [if_neg (by simp), if_neg he])]; rfl
  have b6 : ((rb : Int) % (m : Int) != 0) = true := bne_iff_ne.2 (by have h3 : rb % m ≠ 0 := (by rw [← HRB.out]; exact he); omega)
  clear h hc256 hmE hmsE hcfg hl hmul he hpb htb
  go_enter Tryd.func35, Tryd.ntmps35
  go_wp2_with (first
    | (go_at_call 32; clear y1; go_loud (refine (one_yes g a0 n0 c0 bs c r w0 _ HM0.out.tak).mono ?_; rintro e w1 ⟨rfl, ht1, ho1⟩; have HM1 : Hid (Mpk w0 w g q a0 n0 c0 bs (cfg : Nat) ch w1 r (.slice none 0 0) 0 []) := HM0.out.took ho1 ht1; obtain ⟨t1, f1, f0⟩ := HM1.out.taker; obtain ⟨x0, x2, x3, e2, e3⟩ := HM1.out.boxed; obtain ⟨ra, rn, rc, hrn, hroom, hsz, htk, hsub, hbs, hgs, hqs⟩ := HM1.out.know; obtain rfl : rn = rb := (by have := HRB.out; omega); have t0 := htk.cells.1; clear hrn hsub hbs htk; clear ht1 ho1))
    | (go_at_call 21; go_loud (refine (HMS.out _).mono ?_; rintro e w2 ⟨rfl, hw2⟩; rw [hw2]; clear hw2)))
  refine bodyPost_ret (results_none rfl _ _ _) rfl ?_
  exact ⟨rfl, .no HN.out HM1.out.setBad⟩

set_option maxRecDepth 100000 in
set_option maxHeartbeats 1500000 in
theorem many_even_ok (g q : Nat) (a0 : Option Addr) (n0 c0 : Nat) (bs : List Nat) (cfg : Nat) (ch : Int) (c : Nat) (r : List Nat) (w0 w : World) (h : Mpk w0 w g q a0 n0 c0 bs (cfg : Nat) ch w (c :: r) (.slice none 0 0) 0 []) (hcfg : cfg ≤ 11) (m ms : Nat) (hmE : c % 64 = m) (hmsE : msN cfg = ms) (hm : ¬ m = 0) (hl : ¬ 120 < m * ms) (hpb : ¬ c / 64 % 2 = 1) (htb : ¬ c / 128 % 2 = 1) (he : r.length % m = 0) :
    Calls Tryd.prog 35 #[.pointer (some ⟨g, 0, none⟩), .pointer (some ⟨q, 0, none⟩)] w fun e w' => e = .returned (.tuple #[]) ∧ ManyR w0 w g q a0 n0 c0 bs (cfg : Nat) ch (msN cfg) (c :: r) w' := by
  have HM0 : Hid (Mpk w0 w g q a0 n0 c0 bs (cfg : Nat) ch w (c :: r) (.slice none 0 0) 0 []) := h
  have HB : Hid (g < w.heap.size ∧ q < w.heap.size ∧ g ≠ q) := ⟨h.gB, h.qB, h.ne⟩
  have hc256 : c < 256 := by obtain ⟨_, _, _, _, _, _, _, _, hb, _⟩ := h.know; exact hb.row.small c (by simp)
  have b0 : (0 : Int) ≤ c := by omega
  have b1 : c ≤ 255 := by omega
  have b2 : m ≤ 63 := by omega
  have b3 : ms ≤ 20 := by have := (msN_in cfg).2; omega
  have bm : (0 : Int) ≤ m := by omega
  have hA : bits .and .i64 (c : Int) 63 = (m : Nat) := by rw [and_63 c, hmE]
  have HMS : Hid (∀ W : World, Calls Tryd.prog 21 #[.int .i64 (cfg : Nat)] W fun e w' => e = .returned (.int .i64 (ms : Nat)) ∧ w' = W) := fun W => by rw [← hmsE]; exact rms_any cfg (by omega) W
  have y1 : Hid True := trivial
  have hm0 : ((m : Int) == 0) = false := beq_eq_false_iff_ne.2 (by omega)
  have HP : Hid ((m : Int) * (ms : Int) = ((m * ms : Nat) : Int)) := (Int.natCast_mul m ms).symm
  have hmul : m * ms ≤ 1260 := Nat.le_trans (Nat.mul_le_mul b2 b3) (by decide)
  have hp0 : 0 ≤ (m : Int) * (ms : Int) ∧ (m : Int) * (ms : Int) ≤ 1260 := by rw [HP.out]; omega
  have hA2 : bits .and .i64 (c : Int) 64 = 0 := by rw [and_64 c hc256, if_neg hpb]; rfl
  have hA3 : bits .and .i64 (c : Int) 128 = 0 := by rw [and_128 c hc256, if_neg htb]; rfl
  have d6 : decide (120 < (m : Int) * (ms : Int)) = false := decide_eq_false (by rw [HP.out]; omega)
  have HNB : Hid (∀ x, bodyN m false r = x → manyN (msN cfg) (c :: r) = x.map fun fs => (fs, 0)) := fun x hx => by rw [hmsE, manyN_plain hmE hm hl hpb (by first | exact decide_eq_true htb | exact decide_eq_false htb), hx]
  obtain ⟨rb, HRB⟩ : ∃ rb, Hid (r.length = rb) := ⟨_, rfl⟩
  have hmz : ¬ (m : Int) = 0 := by omega
  obtain ⟨k, HK⟩ : ∃ k, Hid (rb / m = k) := ⟨_, rfl⟩
  have HQ : Hid ((rb : Int) / (m : Int) = (k : Nat)) := by rw [← HK.out]; rfl
  have hrb : rb ≤ 140737488351232 := by have h1 := h.few; have h2 := HRB.out; simp only [List.length_cons] at h1; omega
  have hq : 0 ≤ (rb : Int) / (m : Int) ∧ (rb : Int) / (m : Int) ≤ rb := ⟨Int.ediv_nonneg (by omega) (by omega), Int.ediv_le_self _ (by omega)⟩
  have hkb : k ≤ 140737488351232 := by have h1 := HK.out; have := Nat.div_le_self rb m; omega
  have HW : Hid (IntKind.i64.wrap (k : Int) = (k : Int)) := wrap_nat k (by omega)
  have HL : Hid (rb = m * k) := by have h1 := Nat.div_add_mod rb m; have h2 := HK.out; have h3 : rb % m = 0 := (by rw [← HRB.out]; exact he); rw [h2, h3] at h1; show _ = _; omega
  have HN : Hid (manyN (msN cfg) (c :: r) = some (evenN m k r, 0)) := by
    show _ = _
    rw [HNB.out (some (evenN m k r)) (by unfold bodyN; rw [if_neg (by simp), if_pos he, HRB.out, HK.out])]; rfl
  have b6 : ((rb : Int) % (m : Int) != 0) = false := by have h3 : rb % m = 0 := (by rw [← HRB.out]; exact he); have h4 : (rb : Int) % (m : Int) = 0 := (by omega); rw [h4]; rfl
  clear h hc256 hmE hmsE hcfg hl hmul he hpb htb
  go_enter Tryd.func35, Tryd.ntmps35
  go_wp2_with (first
    | (go_at_call 32; clear y1; go_loud (refine (one_yes g a0 n0 c0 bs c r w0 _ HM0.out.tak).mono ?_; rintro e w1 ⟨rfl, ht1, ho1⟩; have HM1 : Hid (Mpk w0 w g q a0 n0 c0 bs (cfg : Nat) ch w1 r (.slice none 0 0) 0 []) := HM0.out.took ho1 ht1; obtain ⟨t1, f1, f0⟩ := HM1.out.taker; obtain ⟨x0, x2, x3, e2, e3⟩ := HM1.out.boxed; obtain ⟨ra, rn, rc, hrn, hroom, hsz, htk, hsub, hbs, hgs, hqs⟩ := HM1.out.know; obtain rfl : rn = rb := (by have := HRB.out; omega); have t0 := htk.cells.1; clear hrn hsub hbs htk; clear ht1 ho1))
    | (go_at_call 21; go_loud (refine (HMS.out _).mono ?_; rintro e w2 ⟨rfl, hw2⟩; rw [hw2]; clear hw2)))
  go_loopw [8] (fun i W => ∃ j : Nat, j ≤ m ∧ i = .int .i64 j ∧ Hid (∃ r3 v fs, Mpk w0 w g q a0 n0 c0 bs (cfg : Nat) ch W r3 v 0 fs ∧ fs.length = j ∧ fs ++ evenN (m - j) k r3 = evenN m k r ∧ r3.length = (m - j) * k)) (fun i _ => m - (intOf i).toNat)
  case atStart => exact ⟨0, Nat.zero_le _, rfl, r, _, _, HM1.out, rfl, by rw [Nat.sub_zero]; rfl, by rw [HRB.out, HL.out, Nat.sub_zero]⟩
  case round =>
    obtain ⟨j, hj, rfl, HR⟩ := hrel
    obtain ⟨r3, v, fs, k1, k2, k3, k4⟩ := HR.out
    have HMr : Hid (Mpk w0 w g q a0 n0 c0 bs (cfg : Nat) ch wr r3 v 0 fs) := k1
    obtain ⟨x0, x2, x3, e2, e3⟩ := k1.boxed
    have HF : Hid (fs.length = j ∧ fs ++ evenN (m - j) k r3 = evenN m k r ∧ r3.length = (m - j) * k) := ⟨k2, k3, k4⟩
    clear k1 k2 k3 k4 HR
    by_cases hlt : j < m
    · have hk : k ≤ r3.length := by
        rw [HF.out.2.2, show m - j = (m - (j + 1)) + 1 by omega, Nat.add_mul]; omega
      have HKL : Hid (k ≤ r3.length) := hk
      have HJ : Hid (j < m) := hlt
      clear hk
      go_wp2
      go_region_law (first
        | (go_simp; go_at_call 33; go_loud (rw [HQ.out, HW.out]; refine (some_any g a0 n0 c0 bs false r3 k w0 _ HMr.out.drew.tak HKL.out).mono ?_; rintro e w3 ⟨⟨a8, c8, rfl, ho8⟩, ht8, hon8⟩; have HM3 : Hid (Mpk w0 w g q a0 n0 c0 bs (cfg : Nat) ch w3 (r3.drop k) v 0 fs) := HMr.out.drew.took hon8 ht8; have HO8 : Hid (w3.ownsRow wr.drew.heap.size 5 1 (.slice a8 k c8) k (bvals (r3.take k))) := (by have h9 : w3.ownsRow wr.drew.heap.size 5 1 (.slice a8 k c8) (r3.take k).length (bvals (r3.take k)) := ho8; rw [List.length_take_of_le HKL.out] at h9; exact h9); have hx3 := HM3.out.boxed.2.1; have hx3a := HM3.out.boxedA; clear ho8 ht8 hon8))
        | (refine step_push_frame w.heap.size v fs a8 k c8 (r3.take k) w3.heap.size (HM3.out.alloc _).fr (ob_cast ((ownsRow_mono HO8.out HMr.out.drew.size).alloc _) rfl (List.length_take_of_le HKL.out).symm) (List.length_take_of_le HKL.out) (fun k' hk' => HMr.out.drew.fresh HO8.out k' hk') (fun y hy => HMr.out.small y (List.mem_of_mem_take hy)) (by have := HKL.out; have := HMr.out.few; omega) (by have := HF.out.1; omega) (HM3.out.alloc _).size (heap_alloc_new w3 _) rfl (.tmp 129) (.tmp 135) (by rfl) (by rfl) (by rfl) ?_; intro g6 c6 w6 hF6 hb6 hg6; have hgb := (HM3.out.alloc (.cells #[.slice a8 k c8] 29)).grownBox hb6; obtain ⟨hc6, hf6⟩ := hgb; have HMS6 : Hid (Mpk w0 w g q a0 n0 c0 bs (cfg : Nat) ch (w6.setCell ⟨q, 2, none⟩ (.slice (some ⟨g6, 0, none⟩) (fs.length + 1) c6)) (r3.drop k) (.slice (some ⟨g6, 0, none⟩) (fs.length + 1) c6) 0 (fs ++ [r3.take k])) := (HM3.out.alloc (.cells #[.slice a8 k c8] 29)).push hb6 hF6; clear hF6 hb6 hg6))
      all_goals
        go_wp2
        go_roundw
        case rel => exact ⟨j + 1, HJ.out, by go_num, r3.drop k, _, fs ++ [r3.take k], HMS6.out, by rw [List.length_append, HF.out.1]; rfl, by rw [List.append_assoc, ← HF.out.2.1, evenN_step HJ.out]; rfl, by rw [List.length_drop, HF.out.2.2, show m - j = (m - (j + 1)) + 1 by have := HJ.out; omega, Nat.add_mul]; omega⟩
        case measure => simp [intOf]; omega
    · obtain rfl : j = m := by omega
      have HE : Hid (fs = evenN j k r) := by
        show _ = _
        have := HF.out.2.1
        rw [Nat.sub_self] at this
        rw [← this]
        show fs = fs ++ []
        rw [List.append_nil]
      go_wp2
      refine bodyPost_ret (results_none rfl _ _ _) rfl ?_
      exact ⟨rfl, .yes (by rw [HN.out, ← HE.out]) HMr.out⟩

end Go.Proofs.YtgiellpepnbpcaaDoor
