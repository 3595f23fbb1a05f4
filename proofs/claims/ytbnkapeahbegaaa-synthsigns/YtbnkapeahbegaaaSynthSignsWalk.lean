/- The law of signs answers true. -/
import Derived.Test.YtbnkapeahbegaaaSynX
import Derived.Test.YtbnkapeahbegaaaLastOp
import Derived.Deep.RegionHeld3
namespace Go.Proofs.Ytbnkapeahbegaaa
open Go.RowKit

set_option maxRecDepth 100000 in
set_option maxHeartbeats 4000000 in
theorem signs_no (v : PartV) (w : World) (hin : PartIn w v) (hG : goodB v.pl v.loud 0 v.tl [] = false) :
    Calls Try.prog 7 #[.agg #[.slice v.a v.len v.cap, .int .i64 v.loud, .int .i64 v.lag, .int .i64 (v.taps 0), .int .i64 (v.taps 1), .int .i64 (v.taps 2), .int .i64 (v.taps 3), .int .i64 (v.taps 4), .slice v.fa v.flen v.fcap]] w fun e w' => e = .returned (.bool true) ∧ Below w.heap.size w w' := by
  have HB0 : Hid (Below w.heap.size w (w.alloc (.cells #[.slice v.a v.len v.cap, .int .i64 v.loud, .int .i64 v.lag, .int .i64 (v.taps 0), .int .i64 (v.taps 1), .int .i64 (v.taps 2), .int .i64 (v.taps 3), .int .i64 (v.taps 4), .slice v.fa v.flen v.fcap] 31))) := (Below.refl _ _).alloc (Nat.le_refl _) _
  have HX0 : Hid ((w.alloc (.cells #[.slice v.a v.len v.cap, .int .i64 v.loud, .int .i64 v.lag, .int .i64 (v.taps 0), .int .i64 (v.taps 1), .int .i64 (v.taps 2), .int .i64 (v.taps 3), .int .i64 (v.taps 4), .slice v.fa v.flen v.fcap] 31)).heap[w.heap.size]? = some (.cells #[.slice v.a v.len v.cap, .int .i64 v.loud, .int .i64 v.lag, .int .i64 (v.taps 0), .int .i64 (v.taps 1), .int .i64 (v.taps 2), .int .i64 (v.taps 3), .int .i64 (v.taps 4), .slice v.fa v.flen v.fcap] 31 (0, 0))) := heap_alloc_new w _
  have HZ : Hid (∀ W, Below w.heap.size w W → Zs W v.a v.len v.pl) := fun W h => hin.zp.keep h
  have HL : Hid (v.len ≤ 9223372036854775807 ∧ v.pl.length = v.len) := ⟨hin.l1, hin.zp.len⟩
  have HG : Hid (goodB v.pl v.loud 0 [v.taps 0, v.taps 1, v.taps 2, v.taps 3, v.taps 4] [] = false) := hG
  clear hin hG
  go_enter Try.func7, Try.ntmps7
  go_wp2_with (first
    | (go_at_call 9; go_loud (refine (awake_any _).mono ?_; rintro e w1 ⟨rfl, hB1⟩; have HX1 := (hB1.block w.heap.size (by simp)).trans HX0.out; have HB1 : Hid (Below w.heap.size w w1) := HB0.out.trans (hB1.mono HB0.out.size); obtain ⟨⟨d0, d1, d2, d3, d4, d5, d6, d7, d8⟩, hf⟩ := nine_cells HX1; have f2 := hf 2; have f8 := hf 8; have HX2 : Hid (((w1.setCell ⟨w.heap.size, 2, none⟩ (.int .i64 0)).setCell ⟨w.heap.size, 8, none⟩ (.slice none 0 0)).heap[w.heap.size]? = some (.cells #[.slice v.a v.len v.cap, .int .i64 v.loud, .int .i64 0, .int .i64 (v.taps 0), .int .i64 (v.taps 1), .int .i64 (v.taps 2), .int .i64 (v.taps 3), .int .i64 (v.taps 4), .slice none 0 0] 31 (0, 0)) ∧ Below w.heap.size w ((w1.setCell ⟨w.heap.size, 2, none⟩ (.int .i64 0)).setCell ⟨w.heap.size, 8, none⟩ (.slice none 0 0))) := ⟨heap_setCell_same _ _ 8 _ _ _ (heap_setCell_same _ _ 2 _ _ _ HX1), (HB1.out.setCell (p := ⟨w.heap.size, 2, none⟩) (Nat.le_refl _) _).setCell (p := ⟨w.heap.size, 8, none⟩) (Nat.le_refl _) _⟩; clear hB1 HX1 hf HB1))
    | (go_at_call 15; go_loud (refine (rgood_any v.a v.len v.cap v.pl v.loud 0 _ _ _ _ _ none 0 0 [] _ (HZ.out _ HX2.out.2) (Zs.nil _ _) HL.out.1 (by decide)).mono ?_; rw [HG.out]; rintro e w3 ⟨rfl, hB3⟩; have HX3 := (hB3.block w.heap.size ((Array.getElem?_eq_some_iff.1 HX2.out.1).1)).trans HX2.out.1; have HB3 : Hid (Below w.heap.size w w3) := HX2.out.2.trans (hB3.mono HX2.out.2.size); have HXX : Hid (w3.heap[w.heap.size]? = some (.cells #[.slice v.a v.len v.cap, .int .i64 v.loud, .int .i64 0, .int .i64 (v.taps 0), .int .i64 (v.taps 1), .int .i64 (v.taps 2), .int .i64 (v.taps 3), .int .i64 (v.taps 4), .slice none 0 0] 31 (0, 0))) := HX3; clear HX2 d0 d1 d2 d3 d4 d5 d6 d7 d8 f2 f8; obtain ⟨⟨d0, d1, d2, d3, d4, d5, d6, d7, d8⟩, hf⟩ := nine_cells HX3; clear hB3 HX3 hf)))
  go_ret
  exact ⟨rfl, HB3.out⟩

set_option maxRecDepth 100000 in
set_option maxHeartbeats 8000000 in
theorem signs_go (v : PartV) (w : World) (hin : PartIn w v) (hG : goodB v.pl v.loud 0 v.tl [] = true) :
    Calls Try.prog 7 #[.agg #[.slice v.a v.len v.cap, .int .i64 v.loud, .int .i64 v.lag, .int .i64 (v.taps 0), .int .i64 (v.taps 1), .int .i64 (v.taps 2), .int .i64 (v.taps 3), .int .i64 (v.taps 4), .slice v.fa v.flen v.fcap]] w fun e w' => e = .returned (.bool true) ∧ Below w.heap.size w w' := by
  have HB0 : Hid (Below w.heap.size w (w.alloc (.cells #[.slice v.a v.len v.cap, .int .i64 v.loud, .int .i64 v.lag, .int .i64 (v.taps 0), .int .i64 (v.taps 1), .int .i64 (v.taps 2), .int .i64 (v.taps 3), .int .i64 (v.taps 4), .slice v.fa v.flen v.fcap] 31))) := (Below.refl _ _).alloc (Nat.le_refl _) _
  have HX0 : Hid ((w.alloc (.cells #[.slice v.a v.len v.cap, .int .i64 v.loud, .int .i64 v.lag, .int .i64 (v.taps 0), .int .i64 (v.taps 1), .int .i64 (v.taps 2), .int .i64 (v.taps 3), .int .i64 (v.taps 4), .slice v.fa v.flen v.fcap] 31)).heap[w.heap.size]? = some (.cells #[.slice v.a v.len v.cap, .int .i64 v.loud, .int .i64 v.lag, .int .i64 (v.taps 0), .int .i64 (v.taps 1), .int .i64 (v.taps 2), .int .i64 (v.taps 3), .int .i64 (v.taps 4), .slice v.fa v.flen v.fcap] 31 (0, 0))) := heap_alloc_new w _
  have HZ : Hid (∀ W, Below w.heap.size w W → Zs W v.a v.len v.pl) := fun W h => hin.zp.keep h
  have HFINE : Hid (PartP.Fine ⟨v.loud, (0 : Int).toNat, v.tl, []⟩ ∧ 1 ≤ v.len ∧ v.len ≤ 480 ∧ ∀ k : Nat, -16 ≤ v.pl[k]?.getD 0 ∧ v.pl[k]?.getD 0 ≤ 16) := by
    obtain ⟨h1, h2, h3, _, h5⟩ := goodB_fine hG
    rw [hin.zp.len] at h2 h3
    exact ⟨h1, h2, h3, h5⟩
  have HL : Hid (v.len ≤ 9223372036854775807 ∧ v.pl.length = v.len) := ⟨hin.l1, hin.zp.len⟩
  have HG : Hid (goodB v.pl v.loud 0 [v.taps 0, v.taps 1, v.taps 2, v.taps 3, v.taps 4] [] = true) := hG
  clear hin hG
  go_enter Try.func7, Try.ntmps7
  go_wp2_with (first
    | (go_at_call 9; go_loud (refine (awake_any _).mono ?_; rintro e w1 ⟨rfl, hB1⟩; have HX1 := (hB1.block w.heap.size (by simp)).trans HX0.out; have HB1 : Hid (Below w.heap.size w w1) := HB0.out.trans (hB1.mono HB0.out.size); obtain ⟨⟨d0, d1, d2, d3, d4, d5, d6, d7, d8⟩, hf⟩ := nine_cells HX1; have f2 := hf 2; have f8 := hf 8; have HX2 : Hid (((w1.setCell ⟨w.heap.size, 2, none⟩ (.int .i64 0)).setCell ⟨w.heap.size, 8, none⟩ (.slice none 0 0)).heap[w.heap.size]? = some (.cells #[.slice v.a v.len v.cap, .int .i64 v.loud, .int .i64 0, .int .i64 (v.taps 0), .int .i64 (v.taps 1), .int .i64 (v.taps 2), .int .i64 (v.taps 3), .int .i64 (v.taps 4), .slice none 0 0] 31 (0, 0)) ∧ Below w.heap.size w ((w1.setCell ⟨w.heap.size, 2, none⟩ (.int .i64 0)).setCell ⟨w.heap.size, 8, none⟩ (.slice none 0 0))) := ⟨heap_setCell_same _ _ 8 _ _ _ (heap_setCell_same _ _ 2 _ _ _ HX1), (HB1.out.setCell (p := ⟨w.heap.size, 2, none⟩) (Nat.le_refl _) _).setCell (p := ⟨w.heap.size, 8, none⟩) (Nat.le_refl _) _⟩; clear hB1 HX1 hf HB1))
    | (go_at_call 15; go_loud (refine (rgood_any v.a v.len v.cap v.pl v.loud 0 _ _ _ _ _ none 0 0 [] _ (HZ.out _ HX2.out.2) (Zs.nil _ _) HL.out.1 (by decide)).mono ?_; rw [HG.out]; rintro e w3 ⟨rfl, hB3⟩; have HX3 := (hB3.block w.heap.size ((Array.getElem?_eq_some_iff.1 HX2.out.1).1)).trans HX2.out.1; have HB3 : Hid (Below w.heap.size w w3) := HX2.out.2.trans (hB3.mono HX2.out.2.size); have HXX : Hid (w3.heap[w.heap.size]? = some (.cells #[.slice v.a v.len v.cap, .int .i64 v.loud, .int .i64 0, .int .i64 (v.taps 0), .int .i64 (v.taps 1), .int .i64 (v.taps 2), .int .i64 (v.taps 3), .int .i64 (v.taps 4), .slice none 0 0] 31 (0, 0))) := HX3; clear HX2 d0 d1 d2 d3 d4 d5 d6 d7 d8 f2 f8; obtain ⟨⟨d0, d1, d2, d3, d4, d5, d6, d7, d8⟩, hf⟩ := nine_cells HX3; clear hB3 HX3 hf)))
  have HS0 : Hid (Sgn w w.heap.size w3.heap.size #[.slice v.a v.len v.cap, .int .i64 v.loud, .int .i64 0, .int .i64 (v.taps 0), .int .i64 (v.taps 1), .int .i64 (v.taps 2), .int .i64 (v.taps 3), .int .i64 (v.taps 4), .slice none 0 0] (.int .i64 v.loud) (.int .i64 0) (.int .i64 (v.taps 0)) (.int .i64 (v.taps 1)) (.int .i64 (v.taps 2)) (.int .i64 (v.taps 3)) (.int .i64 (v.taps 4)) (.slice none 0 0) (.slice none 0 0) (negL (v.pl.take 0)) (w3.alloc (.cells #[.slice none 0 0, .int .i64 v.loud, .int .i64 0, .int .i64 (v.taps 0), .int .i64 (v.taps 1), .int .i64 (v.taps 2), .int .i64 (v.taps 3), .int .i64 (v.taps 4), .slice none 0 0] 31))) := by
    have hlt := (Array.getElem?_eq_some_iff.1 HXX.out).1
    exact ⟨HB3.out.alloc HB3.out.size _, (Below.heap_alloc w3 _ w.heap.size hlt).trans HXX.out, heap_alloc_new w3 _, World.ownsRow_nil _ 0 _ 1, fun k hk => by simp [Value.ownBlock] at hk, Nat.le_refl _, HB3.out.size, by omega⟩
  clear HX0 HB0 HXX HB3 d0 d1 d2 d3 d4 d5 d6 d7 d8
  generalize (w3.alloc (.cells #[.slice none 0 0, .int .i64 v.loud, .int .i64 0, .int .i64 (v.taps 0), .int .i64 (v.taps 1), .int .i64 (v.taps 2), .int .i64 (v.taps 3), .int .i64 (v.taps 4), .slice none 0 0] 31)) = W0 at HS0 ⊢
  generalize hg2 : w3.heap.size = g2 at HS0 ⊢
  clear hg2
  obtain ⟨g1, hg1⟩ : ∃ g1, w.heap.size = g1 := ⟨_, rfl⟩
  have HS1 : Hid (Sgn w g1 g2 #[.slice v.a v.len v.cap, .int .i64 v.loud, .int .i64 0, .int .i64 (v.taps 0), .int .i64 (v.taps 1), .int .i64 (v.taps 2), .int .i64 (v.taps 3), .int .i64 (v.taps 4), .slice none 0 0] (.int .i64 v.loud) (.int .i64 0) (.int .i64 (v.taps 0)) (.int .i64 (v.taps 1)) (.int .i64 (v.taps 2)) (.int .i64 (v.taps 3)) (.int .i64 (v.taps 4)) (.slice none 0 0) (.slice none 0 0) (negL (v.pl.take 0)) W0) := by
    show Sgn _ _ _ _ _ _ _ _ _ _ _ _ _ _ _
    rw [← hg1]
    exact HS0.out
  rw [hg1]
  clear HS0 hg1
  obtain ⟨P1, hP1⟩ : ∃ P1 : Array Value, #[.slice v.a v.len v.cap, .int .i64 v.loud, .int .i64 0, .int .i64 (v.taps 0), .int .i64 (v.taps 1), .int .i64 (v.taps 2), .int .i64 (v.taps 3), .int .i64 (v.taps 4), .slice none 0 0] = P1 := ⟨_, rfl⟩
  rw [hP1] at HS1
  have HP1 : Hid (P1 = #[.slice v.a v.len v.cap, .int .i64 v.loud, .int .i64 0, .int .i64 (v.taps 0), .int .i64 (v.taps 1), .int .i64 (v.taps 2), .int .i64 (v.taps 3), .int .i64 (v.taps 4), .slice none 0 0]) := hP1.symm
  clear hP1
  go_loopw [4] (fun i W => ∃ (k : Nat) (vv : Value), k ≤ v.len ∧ i = .int .i64 k ∧ Hid (Sgn w g1 g2 P1 (.int .i64 v.loud) (.int .i64 0) (.int .i64 (v.taps 0)) (.int .i64 (v.taps 1)) (.int .i64 (v.taps 2)) (.int .i64 (v.taps 3)) (.int .i64 (v.taps 4)) (.slice none 0 0) vv (negL (v.pl.take k)) W)) (fun i _ => v.len - (intOf i).toNat)
  case atStart => exact ⟨0, _, Nat.zero_le _, rfl, HS1⟩
  case round =>
    clear HS1
    obtain ⟨k, vv, hk, rfl, HH⟩ := hrel
    by_cases hlt : k < v.len
    · have hnl : (negL (v.pl.take k)).length = k := by
        rw [negL_len, List.length_take]
        have := HL.out.2
        omega
      have hstep := negL_step (l := v.pl) (k := k) (by have := HL.out.2; omega)
      have hx16 := HFINE.out.2.2.2 k
      have hv480 := HFINE.out.2.2.1
      obtain ⟨b, off, hva, hbl, hca⟩ := (HZ.out _ HH.out.bel).at_ (by omega)
      have hcx := hca k hlt
      obtain ⟨av, cv, rfl, _, _⟩ := zs_of_own HH.out.own
      rw [hnl] at HH
      generalize v.pl[k]?.getD 0 = xv at *
      have HSTEP : Hid (negL (v.pl.take (k + 1)) = negL (v.pl.take k) ++ [-xv]) := hstep
      generalize negL (v.pl.take k) = ys at *
      have HN : Hid (ys.length = k) := hnl
      have hb1 := HH.out.b1
      rw [HP1.out] at hb1
      obtain ⟨⟨d0, _, _, _, _, _, _, _, _⟩, _⟩ := nine_cells hb1
      obtain ⟨⟨q0, _, _, _, _, _, _, _, _⟩, qf⟩ := nine_cells HH.out.b2
      have qf0 := qf 0
      have hl1 := HH.out.lt1
      have hl2 := HH.out.lt2
      have a1 : IntKind.i64.wrap (-xv) = -xv := by rw [IntKind.wrap_i64]; omega
      have a2 : wrap64 (-xv) = -xv := by unfold wrap64; omega
      have HOW : Hid (∀ W, Below wr.heap.size wr W → W.ownsRow 0 2 1 (.slice av k cv) k (ys.map (Value.int .i64))) := fun W hW => by
        have := (HH.out.keep hW).own
        rw [HN.out] at this
        exact this
      have HPU : Hid (∀ W g cap w', Below wr.heap.size wr W → w'.ownsRow 0 2 1 (.slice (some ⟨g, 0, none⟩) (k + 1) cap) (k + 1) ((ys ++ [-xv]).map (Value.int .i64)) → W.grownBy w' (Value.slice av k cv).ownBlock → ((Value.slice av k cv).ownBlock = some g ∨ W.heap.size ≤ g) → (Sgn w g1 g2 P1 (.int .i64 v.loud) (.int .i64 0) (.int .i64 (v.taps 0)) (.int .i64 (v.taps 1)) (.int .i64 (v.taps 2)) (.int .i64 (v.taps 3)) (.int .i64 (v.taps 4)) (.slice none 0 0) (.slice (some ⟨g, 0, none⟩) (k + 1) cap) (ys ++ [-xv]) (w'.setCell ⟨g2, 0, none⟩ (.slice (some ⟨g, 0, none⟩) (k + 1) cap))) ∧ w'.cell? ⟨g2, 0, none⟩ = some (.slice av k cv) ∧ w'.frozen? ⟨g2, 0, none⟩ = false) := fun W g cap w' hW ho hg hat =>
        ⟨HH.out.push (by rw [HN.out]) hW ho hg hat, HH.out.grown2 hW hg⟩
      rw [hva] at d0
      clear hnl hstep hx16 hca qf hva hb1
      go_wp2
      go_region_law ((go_loud (refine step_push_num 0 k (.slice av k cv) ys (-xv) wr.heap.size (HOW.out _ (by first | exact ((Below.refl _ wr).alloc (Nat.le_refl _) _).drew | exact ((Below.refl _ wr).drew).alloc (Nat.le_refl _) _)) (by omega) (Nat.zero_le _) (by first | exact heap_alloc_new wr _ | exact heap_alloc_new wr.drew _) (by rfl) (.tmp 27) (.tmp 34) (by rfl) (by rfl) (by rfl) ?_; intro g5 cap5 w5 ho5 hg5 hat5; obtain ⟨hS5, hc5, hf5⟩ := HPU.out _ _ _ _ (by first | exact ((Below.refl _ wr).alloc (Nat.le_refl _) _).drew | exact ((Below.refl _ wr).drew).alloc (Nat.le_refl _) _) ho5 hg5 hat5; have HS5 : Hid _ := hS5; clear hS5)))
      all_goals
        go_wp2
        go_roundw
        case rel => exact ⟨k + 1, _, by omega, by go_num, by rw [HSTEP.out]; exact HS5⟩
        case measure => simp [intOf]; omega
    · obtain rfl : k = v.len := by omega
      have hlt' : ((v.len : Int) < (v.len : Int)) = False := eq_false (by omega)
      have hh := HH.out
      rw [List.take_of_length_le (by have := HL.out.2; omega)] at hh
      have hnl : (negL v.pl).length = v.len := by rw [negL_len]; exact HL.out.2
      obtain ⟨av, cv, rfl, hcv, _⟩ := zs_of_own hh.own
      rw [hnl] at hh
      have HS : Hid (Sgn w g1 g2 P1 (.int .i64 v.loud) (.int .i64 0) (.int .i64 (v.taps 0)) (.int .i64 (v.taps 1)) (.int .i64 (v.taps 2)) (.int .i64 (v.taps 3)) (.int .i64 (v.taps 4)) (.slice none 0 0) (.slice av v.len cv) (negL v.pl) wr) := hh
      have HOWN : Hid (∀ W, Below wr.heap.size wr W → Zs W av v.len (negL v.pl)) := fun W hW => by
        have := (HS.out.keep hW).own
        exact (zs_own hnl.symm (by rw [hnl] at this; exact this)).1
      have HR1 : Hid (∀ W p, Below wr.heap.size wr W → Vo p (zeros 320) (zeros 32) W → wr.heap.size ≤ p → Calls Try.prog 11 #[.pointer (some ⟨p, 0, none⟩), .agg #[.slice v.a v.len v.cap, .int .i64 v.loud, .int .i64 0, .int .i64 (v.taps 0), .int .i64 (v.taps 1), .int .i64 (v.taps 2), .int .i64 (v.taps 3), .int .i64 (v.taps 4), .slice none 0 0]] W fun e w' => ∃ g, e = .returned (.tuple #[.slice (some ⟨g, 32, none⟩) v.len v.len, .int .i64 0]) ∧ Zs w' (some ⟨g, 32, none⟩) v.len (v.pl.map (· * v.loud)) ∧ Below wr.heap.size wr w') := fun W p hW hv hp => by
        refine (run_good p (zeros 320) (zeros 32) v.a v.len v.cap v.pl v.loud 0 _ _ _ _ _ none 0 0 [] W hv (HZ.out W (HS.out.bel.trans (hW.mono HS.out.bel.size))) (Zs.nil _ _) HG.out).mono ?_
        rintro e w' ⟨g, rfl, _, hz, _, ht⟩
        rw [signs_sounds HG.out] at hz
        exact ⟨g, rfl, hz, hW.trans (ht.below hp hW.size)⟩
      have HR2 : Hid (∀ W p, Below wr.heap.size wr W → Vo p (zeros 320) (zeros 32) W → wr.heap.size ≤ p → Calls Try.prog 11 #[.pointer (some ⟨p, 0, none⟩), .agg #[.slice av v.len cv, .int .i64 v.loud, .int .i64 0, .int .i64 (v.taps 0), .int .i64 (v.taps 1), .int .i64 (v.taps 2), .int .i64 (v.taps 3), .int .i64 (v.taps 4), .slice none 0 0]] W fun e w' => ∃ g, e = .returned (.tuple #[.slice (some ⟨g, 32, none⟩) v.len v.len, .int .i64 0]) ∧ Zs w' (some ⟨g, 32, none⟩) v.len ((negL v.pl).map (· * v.loud)) ∧ Turn p W w') := fun W p hW hv hp => by
        refine (run_good p (zeros 320) (zeros 32) av v.len cv (negL v.pl) v.loud 0 _ _ _ _ _ none 0 0 [] W hv (HOWN.out W hW) (Zs.nil _ _) (negL_good HG.out)).mono ?_
        rintro e w' ⟨g, rfl, _, hz, _, ht⟩
        rw [signs_sounds (negL_good HG.out)] at hz
        exact ⟨g, rfl, hz, ht⟩
      have HC1 : Hid (∀ W, Below wr.heap.size wr W → W.cell? ⟨g1, 0, none⟩ = some (.slice v.a v.len v.cap) ∧ W.cell? ⟨g1, 1, none⟩ = some (.int .i64 v.loud) ∧ W.cell? ⟨g1, 2, none⟩ = some (.int .i64 0) ∧ W.cell? ⟨g1, 3, none⟩ = some (.int .i64 (v.taps 0)) ∧ W.cell? ⟨g1, 4, none⟩ = some (.int .i64 (v.taps 1)) ∧ W.cell? ⟨g1, 5, none⟩ = some (.int .i64 (v.taps 2)) ∧ W.cell? ⟨g1, 6, none⟩ = some (.int .i64 (v.taps 3)) ∧ W.cell? ⟨g1, 7, none⟩ = some (.int .i64 (v.taps 4)) ∧ W.cell? ⟨g1, 8, none⟩ = some (.slice none 0 0)) := fun W hW => by
        have := (HS.out.keep hW).b1
        rw [HP1.out] at this
        exact (nine_cells this).1
      have HC2 : Hid (∀ W, Below wr.heap.size wr W → W.cell? ⟨g2, 0, none⟩ = some (.slice av v.len cv) ∧ W.cell? ⟨g2, 1, none⟩ = some (.int .i64 v.loud) ∧ W.cell? ⟨g2, 2, none⟩ = some (.int .i64 0) ∧ W.cell? ⟨g2, 3, none⟩ = some (.int .i64 (v.taps 0)) ∧ W.cell? ⟨g2, 4, none⟩ = some (.int .i64 (v.taps 1)) ∧ W.cell? ⟨g2, 5, none⟩ = some (.int .i64 (v.taps 2)) ∧ W.cell? ⟨g2, 6, none⟩ = some (.int .i64 (v.taps 3)) ∧ W.cell? ⟨g2, 7, none⟩ = some (.int .i64 (v.taps 4)) ∧ W.cell? ⟨g2, 8, none⟩ = some (.slice none 0 0)) := fun W hW => (nine_cells (HS.out.keep hW).b2).1
      clear HH hh hnl hcv HOWN
      obtain ⟨d0, d1, d2, d3, d4, d5, d6, d7, d8⟩ := HC1.out wr (Below.refl _ _)
      go_wp2
      go_region_with (first
        | (go_at_call 10; refine (new_is _).mono ?_; rintro e w6 ⟨p6, rfl, hp6, hv6, hb6⟩; have HB6 : Hid (Below wr.heap.size wr w6 ∧ Vo p6 (zeros 320) (zeros 32) w6 ∧ wr.heap.size ≤ p6) := ⟨((Below.refl _ _).drew).trans hb6, hv6, hp6⟩; clear hb6 hv6 hp6; obtain ⟨x0, x1, x2, x3, x4, x5, x6, x7, x8⟩ := HC1.out w6 HB6.out.1)
        | (go_at_call 11; refine (HR1.out _ _ HB6.out.1 HB6.out.2.1 HB6.out.2.2).mono ?_; rintro e w7 ⟨g7, rfl, hz7, hb7⟩; have HB7 : Hid (Below wr.heap.size wr w7 ∧ Zs w7 (some ⟨g7, 32, none⟩) v.len (v.pl.map (· * v.loud))) := ⟨hb7, hz7⟩; clear hb7 hz7))
      all_goals
        have HX7 : Hid (Zs w7 (some ⟨g7, 32, none⟩) v.len (v.pl.map (· * v.loud))) := HB7.out.2
        have hx7 := HB7.out.2
        obtain ⟨q0, q1, q2, q3, q4, q5, q6, q7, q8⟩ := HC2.out w7 HB7.out.1
        have hg7 : Hid (g7 < w7.heap.size) := by
          obtain ⟨b9, o9, e9, h9, _⟩ := hx7.at_ HFINE.out.2.1
          cases e9
          exact h9
        clear hx7 d0 d1 d2 d3 d4 d5 d6 d7 d8 HR1 HC1 HB6
        try clear x0 x1 x2 x3 x4 x5 x6 x7 x8
        go_simp
        go_wp2
        go_region_with (first
          | (go_at_call 10; refine (new_is _).mono ?_; rintro e w8 ⟨p8, rfl, hp8, hv8, hb8⟩; have HB8 : Hid (Below wr.heap.size wr w8 ∧ Vo p8 (zeros 320) (zeros 32) w8 ∧ wr.heap.size ≤ p8 ∧ g7 ≠ p8 ∧ Zs w8 (some ⟨g7, 32, none⟩) v.len (v.pl.map (· * v.loud))) := ⟨(HB7.out.1.drew).trans (hb8.mono HB7.out.1.size), hv8, Nat.le_trans HB7.out.1.size hp8, (by have := hg7.out; have : w7.heap.size ≤ p8 := hp8; omega), (HX7.out.drew).keep hb8⟩; clear hb8 hv8 hp8; obtain ⟨r0, r1, r2, r3, r4, r5, r6, r7, r8⟩ := HC2.out w8 HB8.out.1)
          | (go_at_call 11; refine (HR2.out _ _ HB8.out.1 HB8.out.2.1 HB8.out.2.2.1).mono ?_; rintro e w9 ⟨g9, rfl, hz9, ht9⟩; have HB9 : Hid (Below wr.heap.size wr w9 ∧ Zs w9 (some ⟨g9, 32, none⟩) v.len ((negL v.pl).map (· * v.loud)) ∧ Zs w9 (some ⟨g7, 32, none⟩) v.len (v.pl.map (· * v.loud))) := ⟨HB8.out.1.trans (ht9.below HB8.out.2.2.1 HB8.out.1.size), hz9, ht9.zs HB8.out.2.2.2.2 (fun _ x e => by cases e; exact HB8.out.2.2.2.1)⟩; clear hz9 ht9))
      all_goals
        have HE : Hid (Below wr.heap.size wr w9 ∧ (∀ k, k < v.len → w9.cell? ⟨g7, 32 + k, none⟩ = some (.int .i64 (v.pl[k]?.getD 0 * v.loud)) ∧ w9.cell? ⟨g9, 32 + k, none⟩ = some (.int .i64 (-(v.pl[k]?.getD 0) * v.loud))) ∧ Zs w9 v.a v.len v.pl ∧ w9.cell? ⟨g1, 0, none⟩ = some (.slice v.a v.len v.cap) ∧ w9.cell? ⟨g1, 1, none⟩ = some (.int .i64 v.loud) ∧ Below w.heap.size w w9) := by
          have hb := HB9.out.1
          have b1 := (HS.out.keep hb).b1
          rw [HP1.out] at b1
          have hbw := HS.out.bel.trans (hb.mono HS.out.bel.size)
          refine ⟨hb, fun k hk => ?_, HZ.out _ hbw, (nine_cells b1).1.1, (nine_cells b1).1.2.1, hbw⟩
          obtain ⟨bx, ox, ex, _, hx⟩ := HB9.out.2.2.at_ (by omega)
          obtain ⟨by', oy, ey, _, hy⟩ := HB9.out.2.1.at_ (by omega)
          cases ex
          cases ey
          have h1 := hx k hk
          have h2 := hy k hk
          rw [mul_at (by rw [HL.out.2]; exact hk)] at h1
          rw [mul_at (by rw [negL_len, HL.out.2]; exact hk), negL_at (by rw [HL.out.2]; exact hk)] at h2
          exact ⟨h1, h2⟩
        clear HB9 HB8 HB7 HR2 HC2 HX7 hg7 q0 q1 q2 q3 q4 q5 q6 q7 q8 HS
        try clear r0 r1 r2 r3 r4 r5 r6 r7 r8
        go_simp
        go_wp2
        go_loopw [9] (fun i W => (∃ d, W = w9.drewN d) ∧ ∃ k : Nat, k ≤ v.len ∧ i = .int .i64 k) (fun i _ => v.len - (intOf i).toNat)
        case atStart => exact ⟨⟨0, rfl⟩, 0, Nat.zero_le _, rfl⟩
        case round =>
          obtain ⟨⟨d, rfl⟩, k, hk, rfl⟩ := hrel
          by_cases hlt : k < v.len
          · have hv480 := HFINE.out.2.2.1
            obtain ⟨hc1, hc2⟩ := HE.out.2.1 k hlt
            obtain ⟨b, off, hva, _, hca⟩ := HE.out.2.2.1.at_ (by omega)
            have hc3 := hca k hlt
            have hc4 := HE.out.2.2.2.1
            have hc5 := HE.out.2.2.2.2.1
            have hx16 := HFINE.out.2.2.2 k
            have hlo := loud_in HFINE.out.1 hx16.1 hx16.2
            change -4194304 ≤ v.pl[k]?.getD 0 * v.loud ∧ v.pl[k]?.getD 0 * v.loud ≤ 4194304 at hlo
            rw [Int.neg_mul] at hc2
            generalize v.pl[k]?.getD 0 = xv at *
            obtain ⟨yv, hyv⟩ : ∃ yv : Int, xv * v.loud = yv := ⟨_, rfl⟩
            rw [hyv] at hc1 hc2 hlo
            have a1 : IntKind.i64.wrap (xv * v.loud) = yv := by rw [hyv, IntKind.wrap_i64]; omega
            have a2 : IntKind.i64.wrap (- -yv) = yv := by rw [Int.neg_neg, IntKind.wrap_i64]; omega
            have a3 : IntKind.i64.wrap yv = yv := by rw [IntKind.wrap_i64]; omega
            have a4 : (yv != yv) = false := by simp
            rw [hva] at hc4
            clear hca hx16 hlo hyv hva
            go_wp2
            go_quiet (fail)
            all_goals
              go_wp2
              go_roundw
              case rel => exact ⟨⟨_, rfl⟩, k + 1, by omega, by go_num⟩
              case measure => simp [intOf]; omega
          · have hlt' : ((k : Int) < (v.len : Int)) = False := eq_false (by omega)
            have HBE : Hid (Below w.heap.size w (w9.drewN d)) := below_drewN HE.out.2.2.2.2.2 d
            go_wp2
            go_ret
            exact ⟨rfl, HBE.out⟩

theorem synthSigns.walk (v : PartV) (w : World) (h : PartOk w v) :
    Calls Try.prog 7 #[.agg v.cells.toArray] w fun e w' => e = .returned (.bool true) ∧ Below w.heap.size w w' := by
  cases hg : goodB v.pl v.loud 0 v.tl [] with
  | false => exact signs_no v w (.of_ok h) hg
  | true => exact signs_go v w (.of_ok h) hg

end Go.Proofs.Ytbnkapeahbegaaa
