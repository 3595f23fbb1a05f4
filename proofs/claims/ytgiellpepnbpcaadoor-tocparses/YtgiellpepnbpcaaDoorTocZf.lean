/- What the document's own many comes to: some ways. (Laid by wip/mkmany.py.) -/
import Derived.Test.YtgiellpepnbpcaaDoorTocZe
import Derived.Deep.RegionLaw
import Derived.Deep.LoopGhost
import Derived.Deep.RegionWith
namespace Go.Proofs.YtgiellpepnbpcaaDoor
open Go.RowKit

theorem one_yes (g : Nat) (a0 : Option Addr) (n0 c0 : Nat) (bs : List Nat) (c : Nat) (r : List Nat) (w0 w : World) (h : Tak w0 w g a0 n0 c0 bs false (c :: r)) :
    Calls Tryd.prog 32 #[.pointer (some ⟨g, 0, none⟩)] w fun e w' => e = .returned (.int .i64 (c : Nat)) ∧ Tak w0 w' g a0 n0 c0 bs false r ∧ Only g w w' := one_any g a0 n0 c0 bs false (c :: r) w0 w h
theorem one_no (g : Nat) (a0 : Option Addr) (n0 c0 : Nat) (bs : List Nat) (bad : Bool) (w0 w : World) (h : Tak w0 w g a0 n0 c0 bs bad []) :
    Calls Tryd.prog 32 #[.pointer (some ⟨g, 0, none⟩)] w fun e w' => e = .returned (.int .i64 0) ∧ Tak w0 w' g a0 n0 c0 bs true [] ∧ Only g w w' := by
  refine (one_any g a0 n0 c0 bs bad [] w0 w h).mono ?_
  rintro e w' ⟨rfl, h1, h2⟩
  exact ⟨rfl, by simpa using h1, h2⟩

set_option maxRecDepth 100000 in
set_option maxHeartbeats 1500000 in
theorem many_nil (g q : Nat) (a0 : Option Addr) (n0 c0 : Nat) (bs : List Nat) (cfg : Nat) (ch : Int) (w0 w : World) (h : Mpk w0 w g q a0 n0 c0 bs (cfg : Nat) ch w [] (.slice none 0 0) 0 []) :
    Calls Tryd.prog 35 #[.pointer (some ⟨g, 0, none⟩), .pointer (some ⟨q, 0, none⟩)] w fun e w' => e = .returned (.tuple #[]) ∧ ManyR w0 w g q a0 n0 c0 bs (cfg : Nat) ch (msN cfg) [] w' := by
  have HM0 : Hid (Mpk w0 w g q a0 n0 c0 bs (cfg : Nat) ch w [] (.slice none 0 0) 0 []) := h
  have hA : bits .and .i64 0 63 = 0 := and_63 0
  clear h
  go_enter Tryd.func35, Tryd.ntmps35
  go_wp2_with (first
    | (go_at_call 32; go_loud (refine (one_no g a0 n0 c0 bs false w0 _ HM0.out.tak).mono ?_; rintro e w1 ⟨rfl, ht1, ho1⟩; have HM1 : Hid (Bd w0 w g q a0 n0 c0 bs w1) := HM0.out.bad ho1 ht1.tk; obtain ⟨t1, f1⟩ := HM1.out.cells; clear ht1 ho1)))
  refine bodyPost_ret (results_none rfl _ _ _) rfl ?_
  exact ⟨rfl, .no rfl (HM1.out.setBad)⟩

set_option maxRecDepth 100000 in
set_option maxHeartbeats 1500000 in
theorem many_zero (g q : Nat) (a0 : Option Addr) (n0 c0 : Nat) (bs : List Nat) (cfg : Nat) (ch : Int) (c : Nat) (r : List Nat) (w0 w : World) (h : Mpk w0 w g q a0 n0 c0 bs (cfg : Nat) ch w (c :: r) (.slice none 0 0) 0 []) (hcfg : cfg ≤ 11) (m ms : Nat) (hmE : c % 64 = m) (hmsE : msN cfg = ms) (hm : m = 0) :
    Calls Tryd.prog 35 #[.pointer (some ⟨g, 0, none⟩), .pointer (some ⟨q, 0, none⟩)] w fun e w' => e = .returned (.tuple #[]) ∧ ManyR w0 w g q a0 n0 c0 bs (cfg : Nat) ch (msN cfg) (c :: r) w' := by
  have HM0 : Hid (Mpk w0 w g q a0 n0 c0 bs (cfg : Nat) ch w (c :: r) (.slice none 0 0) 0 []) := h
  have HB : Hid (g < w.heap.size ∧ q < w.heap.size ∧ g ≠ q) := ⟨h.gB, h.qB, h.ne⟩
  have hc256 : c < 256 := by obtain ⟨_, _, _, _, _, _, _, _, hb, _⟩ := h.know; exact hb.row.small c (by simp)
  have b0 : (0 : Int) ≤ c := by omega
  have b1 : c ≤ 255 := by omega
  have b2 : m ≤ 63 := by omega
  have b3 : ms ≤ 20 := by have := (msN_in cfg).2; omega
  have bm : (0 : Int) ≤ m := by omega
  have hA : bits .and .i64 (c : Int) 63 = (m : Nat) := by rw [and_63 c, hmE]
  have HMS : Hid (∀ W : World, Calls Tryd.prog 21 #[.int .i64 (cfg : Nat)] W fun e w' => e = .returned (.int .i64 (ms : Nat)) ∧ w' = W) := fun W => by rw [← hmsE]; exact rms_any cfg (by omega) W
  have y1 : Hid True := trivial
  have HN : Hid (manyN (msN cfg) (c :: r) = none) := if_pos (Or.inl (by omega))
  have hm0 : ((m : Int) == 0) = true := beq_iff_eq.2 (by omega)
  clear h hc256 hmE hmsE hm hcfg
  go_enter Tryd.func35, Tryd.ntmps35
  go_wp2_with (first
    | (go_at_call 32; clear y1; go_loud (refine (one_yes g a0 n0 c0 bs c r w0 _ HM0.out.tak).mono ?_; rintro e w1 ⟨rfl, ht1, ho1⟩; have HM1 : Hid (Mpk w0 w g q a0 n0 c0 bs (cfg : Nat) ch w1 r (.slice none 0 0) 0 []) := HM0.out.took ho1 ht1; obtain ⟨t1, f1, f0⟩ := HM1.out.taker; obtain ⟨x0, x2, x3, e2, e3⟩ := HM1.out.boxed; clear ht1 ho1)))
  refine bodyPost_ret (results_none rfl _ _ _) rfl ?_
  exact ⟨rfl, .no HN.out HM1.out.setBad⟩

set_option maxRecDepth 100000 in
set_option maxHeartbeats 1500000 in
theorem many_long (g q : Nat) (a0 : Option Addr) (n0 c0 : Nat) (bs : List Nat) (cfg : Nat) (ch : Int) (c : Nat) (r : List Nat) (w0 w : World) (h : Mpk w0 w g q a0 n0 c0 bs (cfg : Nat) ch w (c :: r) (.slice none 0 0) 0 []) (hcfg : cfg ≤ 11) (m ms : Nat) (hmE : c % 64 = m) (hmsE : msN cfg = ms) (hm : ¬ m = 0) (hl : 120 < m * ms) :
    Calls Tryd.prog 35 #[.pointer (some ⟨g, 0, none⟩), .pointer (some ⟨q, 0, none⟩)] w fun e w' => e = .returned (.tuple #[]) ∧ ManyR w0 w g q a0 n0 c0 bs (cfg : Nat) ch (msN cfg) (c :: r) w' := by
  have HM0 : Hid (Mpk w0 w g q a0 n0 c0 bs (cfg : Nat) ch w (c :: r) (.slice none 0 0) 0 []) := h
  have HB : Hid (g < w.heap.size ∧ q < w.heap.size ∧ g ≠ q) := ⟨h.gB, h.qB, h.ne⟩
  have hc256 : c < 256 := by obtain ⟨_, _, _, _, _, _, _, _, hb, _⟩ := h.know; exact hb.row.small c (by simp)
  have b0 : (0 : Int) ≤ c := by omega
  have b1 : c ≤ 255 := by omega
  have b2 : m ≤ 63 := by omega
  have b3 : ms ≤ 20 := by have := (msN_in cfg).2; omega
  have bm : (0 : Int) ≤ m := by omega
  have hA : bits .and .i64 (c : Int) 63 = (m : Nat) := by rw [and_63 c, hmE]
  have HMS : Hid (∀ W : World, Calls Tryd.prog 21 #[.int .i64 (cfg : Nat)] W fun e w' => e = .returned (.int .i64 (ms : Nat)) ∧ w' = W) := fun W => by rw [← hmsE]; exact rms_any cfg (by omega) W
  have y1 : Hid True := trivial
  have hm0 : ((m : Int) == 0) = false := beq_eq_false_iff_ne.2 (by omega)
  have HP : Hid ((m : Int) * (ms : Int) = ((m * ms : Nat) : Int)) := (Int.natCast_mul m ms).symm
  have hmul : m * ms ≤ 1260 := Nat.le_trans (Nat.mul_le_mul b2 b3) (by decide)
  have hp0 : 0 ≤ (m : Int) * (ms : Int) ∧ (m : Int) * (ms : Int) ≤ 1260 := by rw [HP.out]; omega
  have HN : Hid (manyN (msN cfg) (c :: r) = none) := if_pos (Or.inr (by rw [hmE, hmsE]; exact hl))
  have d6 : decide (120 < (m : Int) * (ms : Int)) = true := decide_eq_true (by rw [HP.out]; omega)
  clear h hc256 hmE hmsE hm hcfg hl hmul
  go_enter Tryd.func35, Tryd.ntmps35
  go_wp2_with (first
    | (go_at_call 32; clear y1; go_loud (refine (one_yes g a0 n0 c0 bs c r w0 _ HM0.out.tak).mono ?_; rintro e w1 ⟨rfl, ht1, ho1⟩; have HM1 : Hid (Mpk w0 w g q a0 n0 c0 bs (cfg : Nat) ch w1 r (.slice none 0 0) 0 []) := HM0.out.took ho1 ht1; obtain ⟨t1, f1, f0⟩ := HM1.out.taker; obtain ⟨x0, x2, x3, e2, e3⟩ := HM1.out.boxed; clear ht1 ho1))
    | (go_at_call 21; go_loud (refine (HMS.out _).mono ?_; rintro e w2 ⟨rfl, hw2⟩; rw [hw2]; clear hw2)))
  refine bodyPost_ret (results_none rfl _ _ _) rfl ?_
  exact ⟨rfl, .no HN.out HM1.out.setBad⟩

end Go.Proofs.YtgiellpepnbpcaaDoor
