/- The law of tables that may be answers true, of any list. -/
import Derived.Test.YtjcbcmloenhohaaDoorTabsK
namespace Go.Proofs.YtjcbcmloenhohaaDoor
open Go.RowKit

theorem rgood_arg (zs : List Int) (n : Nat) (xo : Option Addr) (cap : Nat) (w : World) (hl : zs.length = n) (hn : n ≤ 9223372036854775807)
    (hc : 0 < n → ∃ b off, xo = some ⟨b, off, none⟩ ∧ ∀ i, i < n → w.cell? ⟨b, off + i, none⟩ = some (.int .i64 (zs[i]?.getD 0))) :
    Calls Tryd.prog 28 #[.slice xo n cap] w fun e w' => e = .returned (.bool (goodB zs)) ∧ w' = w := by
  by_cases h0 : n = 0
  · subst h0
    have e1 : zs = [] := List.eq_nil_of_length_eq_zero hl
    have e2 : goodB zs = false := by rw [e1]; rfl
    rw [e2]
    exact rgood_none xo cap w
  · obtain ⟨b, off, rfl, hcc⟩ := hc (by omega)
    exact rgood_any zs b off n cap w hl (by omega) hn hcc

theorem good_arg (zs : List Int) (n : Nat) (a : Option Addr) (c B : Nat) (e : TypeId) (w : World) (h : NewRow e B w a zs) (hl : zs.length = n) (hn : n ≤ 9223372036854775807) :
    Calls Tryd.prog 10 #[.slice a n c] w fun e w' => e = .returned (.bool (goodB zs)) ∧ w' = w := by
  by_cases h0 : n = 0
  · subst h0
    have e1 : zs = [] := List.eq_nil_of_length_eq_zero hl
    have e2 : goodB zs = false := by rw [e1]; rfl
    rw [e2]
    exact good_none a c w
  · obtain ⟨b, ha, _, _, hc⟩ := h.cells (by omega)
    subst ha
    exact good_any zs b 0 n c w hl (by omega) hn (fun i hi => by rw [Nat.zero_add]; exact hc i (by omega))

set_option maxHeartbeats 400000 in
theorem good_law (xo : Option Addr) (n cap : Nat) (zs : List Int) (w : World) (he : EdgesAt w) (ht : TapsAt w) (hl : zs.length = n) (hn : n * 8 ≤ 140737488351232)
    (hc : 0 < n → ∃ b off, xo = some ⟨b, off, none⟩ ∧ b < w.heap.size ∧ ∀ i, i < n → w.cell? ⟨b, off + i, none⟩ = some (.int .i64 (zs[i]?.getD 0))) :
    Calls Tryd.prog 5 #[.slice xo n cap] w fun e w' => e = .returned (.bool true) ∧ Below w.heap.size w w' := by
  have HC : Hid (∀ W : World, Below w.heap.size w W → 0 < n → ∃ b off, xo = some ⟨b, off, none⟩ ∧ ∀ i, i < n → W.cell? ⟨b, off + i, none⟩ = some (.int .i64 (zs[i]?.getD 0))) := fun W hW h0 => by
    obtain ⟨b, off, hx, hb, hcc⟩ := hc h0
    exact ⟨b, off, hx, fun i hi => (hW.cell (p := ⟨b, off + i, none⟩) hb).trans (hcc i hi)⟩
  have HD : Hid (∀ W : World, Below w.heap.size w W → 0 < n → ∃ x, xo = some x ∧ ∀ i, i < n → W.cell? (x.add i) = some (.int .i64 (zs[i]?.getD 0))) := fun W hW h0 => by
    obtain ⟨b, off, hx, hcc⟩ := HC.out W hW h0
    exact ⟨_, hx, fun i hi => by rw [Addr.add_lit]; exact hcc i hi⟩
  have HL : Hid (zs.length = n) := hl
  clear hc hl
  have hb := Below.refl w.heap.size w
  go_enter Tryd.func5, Tryd.ntmps5
  go_wp2_with (first
    | (go_at_call 9; refine (awake_any _ he ht).mono ?_; rintro e w1 ⟨rfl, hw1⟩; replace hb := hb.trans (hw1.mono hb.size); clear hw1)
    | (at_builtin; refine wpList_append_copy 24 3 Tryd.underlying24 info_int xo n cap zs HL.out (by omega) (HD.out _ hb) rfl _ _ rfl rfl rfl ?_; intro r c w2 hnew hbel; replace hb := hb.trans (hbel.mono hb.size); clear hbel)
    | (go_at_call 10; refine (good_arg zs n _ _ _ _ _ hnew HL.out (by omega)).mono ?_; rintro e w' ⟨rfl, rfl⟩)
    | (go_at_call 28; refine (rgood_arg zs n xo cap _ HL.out (by omega) (HC.out _ hb)).mono ?_; rintro e w' ⟨rfl, rfl⟩))
  go_ret
  exact ⟨rfl, hb⟩

theorem tabsGood.walk (a : Option Addr) (len cap : Nat) (z : List Int) (w : World) (w0 : IsRow .i64 w a len cap z) (s0 : cap * 8 ≤ 140737488351232) (hr : EdgesAt w ∧ TapsAt w) :
    Calls Tryd.prog 5 #[.slice a len cap] w fun e w' => e = .returned (.bool true) ∧ Below w.heap.size w w' := by
  rcases w0 with ⟨rfl, rfl, rfl, _⟩ | ⟨x, rfl, hl, hm, hz, hc, hwf⟩
  · exact good_law none 0 0 [] w hr.1 hr.2 rfl (by decide) (fun h => absurd h (by decide))
  · refine good_law (some x) len cap (z.take len) w hr.1 hr.2 (by rw [List.length_take]; omega) (by omega) (fun h0 => ?_)
    obtain ⟨b, off, rfl, hcc⟩ := ints_at hc (by omega)
    refine ⟨b, off, rfl, World.block_lt_of_cell? w _ (hcc 0 (by omega)), fun i hi => ?_⟩
    rw [hcc i (by omega), List.getElem?_take_of_lt hi]
    simp

end Go.Proofs.YtjcbcmloenhohaaDoor
