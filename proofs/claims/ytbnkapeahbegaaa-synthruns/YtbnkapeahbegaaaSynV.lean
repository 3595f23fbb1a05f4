/- What every law of layer 10 begins with: one pulse, and what is left of it. -/
import Derived.Test.YtbnkapeahbegaaaSynC
import Derived.Test.YtbnkapeahbegaaaSynD
import Derived.Test.YtbnkapeahbegaaaSynG
import Derived.Test.YtbnkapeahbegaaaSynI
namespace Go.Proofs.Ytbnkapeahbegaaa
open Go.RowKit

theorem new_is (w : World) : Calls Try.prog 10 #[] w fun e w' => ∃ p, e = .returned (.pointer (some ⟨p, 0, none⟩)) ∧ w.heap.size ≤ p ∧ Vo p (zeros 320) (zeros 32) w' ∧ Below w.heap.size w w' := by
  refine (new_any w).mono ?_
  rintro e w' ⟨rfl, rfl⟩
  exact ⟨_, rfl, Nat.le_refl _, vo_new w _, (Below.refl _ _).alloc (Nat.le_refl _) _⟩
theorem copy_is (p : Nat) (D E : List Int) (w : World) (hv : Vo p D E w) : Calls Try.prog 19 #[.pointer (some ⟨p, 0, none⟩)] w fun e w' => ∃ q, e = .returned (.pointer (some ⟨q, 0, none⟩)) ∧ w.heap.size ≤ q ∧ Vo q D E w' ∧ Below w.heap.size w w' := by
  refine (copy_any p D E w hv).mono ?_
  rintro e w' ⟨rfl, h1, _, h3⟩
  exact ⟨_, rfl, Nat.le_refl _, h1, h3⟩

def oneP : PartP := ⟨16, 0, [0, 0, 0, 0, 0], [2048]⟩
def oneD : List Int := nextD oneP [1, 0, 0] (zeros 320) (zeros 32)
def oneE : List Int := nextE oneP [1, 0, 0] (zeros 320) (zeros 32)
theorem one_sounds : soundsL oneP [1, 0, 0] (zeros 320) (zeros 32) = [16, 8, 4] := by decide +kernel
theorem one_other : decide (oneD = zeros 320 ∧ oneE = zeros 32) = false := by decide +kernel

theorem run_awake (p : Nat) (w : World) (hv : Vo p (zeros 320) (zeros 32) w) :
    Calls Try.prog 11 #[.pointer (some ⟨p, 0, none⟩), .agg #[.slice (some ⟨w.heap.size, 0, none⟩) 3 3, .int .i64 16, .int .i64 0, .int .i64 0, .int .i64 0, .int .i64 0, .int .i64 0, .int .i64 0, .slice (some ⟨w.heap.size + 1, 0, none⟩) 1 1]] ((w.alloc (.cells #[.int .i64 1, .int .i64 0, .int .i64 0] 2)).alloc (.cells #[.int .i64 2048] 2)) fun e w' =>
      ∃ g, e = .returned (.tuple #[.slice (some ⟨g, 32, none⟩) 3 3, .int .i64 0]) ∧ Zs w' (some ⟨g, 32, none⟩) 3 [16, 8, 4] ∧ Vo p oneD oneE w' ∧ Turn p w w' ∧ g ≠ p := by
  have h1 : Zs ((w.alloc (.cells #[.int .i64 1, .int .i64 0, .int .i64 0] 2)).alloc (.cells #[.int .i64 2048] 2)) (some ⟨w.heap.size, 0, none⟩) 3 [1, 0, 0] := (zs_lit w [1, 0, 0] rfl rfl rfl).alloc _
  have h2 : Zs ((w.alloc (.cells #[.int .i64 1, .int .i64 0, .int .i64 0] 2)).alloc (.cells #[.int .i64 2048] 2)) (some ⟨w.heap.size + 1, 0, none⟩) 1 [2048] := zs_lit _ [2048] rfl rfl (by simp)
  have h3 : Turn p w ((w.alloc (.cells #[.int .i64 1, .int .i64 0, .int .i64 0] 2)).alloc (.cells #[.int .i64 2048] 2)) := ((Turn.refl p w).alloc _).alloc _
  refine (run_good p (zeros 320) (zeros 32) _ 3 3 [1, 0, 0] 16 0 0 0 0 0 0 _ 1 1 [2048] _ ((hv.alloc _).alloc _) h1 h2 (by decide)).mono ?_
  rintro e w' ⟨g, rfl, hg, hz, hv', ht⟩
  refine ⟨g, rfl, ?_, hv', h3.trans ht, by have := hv.lt; simp at hg; omega⟩
  have := one_sounds
  unfold oneP at this
  rw [← this]
  exact hz

theorem pcm_lit (w : World) : Calls Try.prog 13 #[.slice (some ⟨w.heap.size, 0, none⟩) 3 3] (w.alloc (.cells #[.int .i64 16, .int .i64 24, .int .i64 (-24)] 2)) fun e w' => ∃ a', e = .returned (.slice a' 3 3) ∧ Zs w' a' 3 [1, 2, -1] ∧ Below w.heap.size w w' := by
  refine (pcm_any _ 3 3 [16, 24, -24] _ (zs_lit w [16, 24, -24] rfl rfl rfl) (by decide)).mono ?_
  rintro e w' ⟨a', rfl, hn, hb⟩
  have e1 : pcmL [16, 24, -24] = [1, 2, -1] := by decide +kernel
  rw [e1] at hn
  exact ⟨a', rfl, Zs.of_new hn rfl, ((Below.refl _ w).alloc (Nat.le_refl _) _).trans (hb.mono (by simp))⟩
theorem good_lit (w : World) : Calls Try.prog 14 #[.agg #[.slice (some ⟨w.heap.size, 0, none⟩) 1 1, .int .i64 0, .int .i64 0, .int .i64 0, .int .i64 0, .int .i64 0, .int .i64 0, .int .i64 0, .slice none 0 0]] (w.alloc (.cells #[.int .i64 1] 2)) fun e w' => e = .returned (.bool true) ∧ Below w.heap.size w w' := by
  refine (good_any _ 1 1 [1] 0 0 0 0 0 0 0 none 0 0 [] _ (zs_lit w [1] rfl rfl rfl) (Zs.nil _ _) (by decide) (by decide)).mono ?_
  have e1 : goodB [1] 0 0 [0, 0, 0, 0, 0] [] = true := by decide
  rw [e1]
  rintro e w' ⟨rfl, hb⟩
  exact ⟨rfl, ((Below.refl _ w).alloc (Nat.le_refl _) _).trans (hb.mono (by simp))⟩
theorem same_lit3 (a : Option Addr) (x y z : Int) (w : World) (hz : Zs w a 3 [x, y, z]) : Calls Try.prog 17 #[.slice a 3 3, .slice (some ⟨w.heap.size, 0, none⟩) 3 3] (w.alloc (.cells #[.int .i64 x, .int .i64 y, .int .i64 z] 2)) fun e w' => e = .returned (.bool true) ∧ Below w.heap.size w w' := by
  refine (zsame_any a _ 3 3 3 [x, y, z] _ (hz.alloc _) (zs_lit w [x, y, z] rfl rfl rfl) (by decide)).mono ?_
  rintro e w' ⟨rfl, k, rfl⟩
  exact ⟨rfl, below_drewN ((Below.refl _ w).alloc (Nat.le_refl _) _) k⟩

theorem same_yes (p q : Nat) (D E : List Int) (w : World) (hv : Vo p D E w) (hu : Vo q D E w) : Calls Try.prog 12 #[.pointer (some ⟨p, 0, none⟩), .pointer (some ⟨q, 0, none⟩)] w fun e w' => e = .returned (.bool true) ∧ Below w.heap.size w w' := by
  refine (same_any2 p q D E D E w hv hu).mono ?_
  rw [decide_eq_true (show D = D ∧ E = E from ⟨rfl, rfl⟩)]
  rintro e w' ⟨rfl, k, rfl⟩
  exact ⟨rfl, below_drewN (Below.refl _ _) k⟩
theorem same_no (p q : Nat) (D E D' E' : List Int) (w : World) (hv : Vo p D E w) (hu : Vo q D' E' w) (h : decide (D = D' ∧ E = E') = false) : Calls Try.prog 12 #[.pointer (some ⟨p, 0, none⟩), .pointer (some ⟨q, 0, none⟩)] w fun e w' => e = .returned (.bool false) ∧ Below w.heap.size w w' := by
  refine (same_any2 p q D E D' E' w hv hu).mono ?_
  rw [h]
  rintro e w' ⟨rfl, k, rfl⟩
  exact ⟨rfl, below_drewN (Below.refl _ _) k⟩

set_option maxRecDepth 100000 in
set_option maxHeartbeats 2000000 in
theorem awake_any (w : World) :
    Calls Try.prog 9 #[] w fun e w' => e = .returned (.bool true) ∧ Below w.heap.size w w' := by
  have y1 : Hid True := trivial
  have y2 : Hid True := trivial
  have y3 : Hid True := trivial
  go_enter Try.func9, Try.ntmps9
  go_wp2_with (first
    | (go_at_call 10; clear y1; refine (new_is _).mono ?_; rintro e w1 ⟨p, rfl, hp, hv1, hb1⟩)
    | (go_at_call 11; refine (run_awake p _ hv1).mono ?_; rintro e w2 ⟨g, rfl, hz2, hv2, ht2, hgp⟩; have hB2 := hb1.trans (ht2.below hp hb1.size); clear hv1 ht2 hb1)
    | (go_at_call 19; refine (copy_is p _ _ _ hv2).mono ?_; rintro e w3 ⟨q, rfl, hq, hu3, hb3⟩; have hv3 := hv2.keep hb3; have hz3 := hz2.keep hb3; have hB3 := hB2.trans (hb3.mono hB2.size); have hqp : Hid (q ≠ p) := (show q ≠ p by have := hv2.lt; omega); clear hv2 hz2 hB2 hb3)
    | (go_at_call 20; go_loud (refine (reset_any p _ _ _ hv3).mono ?_; rintro e w4 ⟨⟨rv, rfl⟩, hv4, ht4⟩; have hz4 := ht4.zs hz3 (fun _ x e => by cases e; exact hgp); have hu4 := hu3.turn ht4 hqp.out; have hB4 := hB3.trans (ht4.below hp hB3.size); clear hv3 hz3 hu3 hB3 ht4))
    | (go_at_call 17; clear y2; go_loud (refine (same_lit3 _ _ _ _ _ hz4).mono ?_; rintro e w5 ⟨rfl, hb5⟩; have hv5 := hv4.keep hb5; have hu5 := hu4.keep hb5; have hB5 := hB4.trans (hb5.mono hB4.size); clear hv4 hu4 hB4 hb5 hz4))
    | (go_at_call 13; go_loud (refine (pcm_lit _).mono ?_; rintro e w6 ⟨a6, rfl, hz6, hb6⟩; have hv6 := hv5.keep hb6; have hu6 := hu5.keep hb6; have hB6 := hB5.trans (hb6.mono hB5.size); clear hv5 hu5 hB5 hb6))
    | (go_at_call 17; go_loud (refine (same_lit3 _ _ _ _ _ hz6).mono ?_; rintro e w7 ⟨rfl, hb7⟩; have hv7 := hv6.keep hb7; have hu7 := hu6.keep hb7; have hB7 := hB6.trans (hb7.mono hB6.size); clear hv6 hu6 hB6 hb7 hz6))
    | (go_at_call 10; go_loud (refine (new_is _).mono ?_; rintro e w8 ⟨p8, rfl, hp8, hn8, hb8⟩; have hv8 := hv7.keep hb8; have hu8 := hu7.keep hb8; have hB8 := hB7.trans (hb8.mono hB7.size); clear hv7 hu7 hB7 hb8))
    | (go_at_call 12; clear y3; go_loud (refine (same_yes _ _ _ _ _ hv8 hn8).mono ?_; rintro e w9 ⟨rfl, hb9⟩; have hv9 := hv8.keep hb9; have hu9 := hu8.keep hb9; have hB9 := hB8.trans (hb9.mono hB8.size); clear hv8 hu8 hB8 hb9 hn8))
    | (go_at_call 12; go_loud (refine (same_no _ _ _ _ _ _ _ hu9 hv9 one_other).mono ?_; rintro e w10 ⟨rfl, hb10⟩; have hB10 := hB9.trans (hb10.mono hB9.size); clear hv9 hu9 hB9 hb10))
    | (go_at_call 14; go_loud (refine (good_lit _).mono ?_; rintro e w11 ⟨rfl, hb11⟩; have hB11 := hB10.trans (hb11.mono hB10.size))))
  go_ret
  exact ⟨rfl, hB11⟩

end Go.Proofs.Ytbnkapeahbegaaa
