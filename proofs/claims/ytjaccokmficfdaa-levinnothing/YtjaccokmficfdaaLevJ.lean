/- The examples that each law of chapter 12 asks first. -/
import Derived.Test.YtjaccokmficfdaaLevP
import Derived.Test.YtjaccokmficfdaaNumB
namespace Go.Proofs.Ytjaccokmficfdaa
namespace Lev
open Go.RowKit

theorem aw_auto : autoL [1, 2, 3] 1 = [14, 8] := by decide +kernel
theorem aw_solve : solveZ [100, 50] = [2046] := by decide +kernel
theorem aw_rest : restL [5, 5] [4096] = [5, 0] := by decide +kernel
theorem aw_power : powI [3, 4] = 25 := by decide +kernel

theorem lit1 {e : TypeId} (w : World) (x : Int) {g : Nat} (hg : g = w.heap.size) : Zs (w.alloc (.cells #[.int .i64 x] e)) (some ⟨g, 0, none⟩) 1 [x] := zs_lit w [x] rfl rfl hg
theorem lit2 {e : TypeId} (w : World) (x y : Int) {g : Nat} (hg : g = w.heap.size) : Zs (w.alloc (.cells #[.int .i64 x, .int .i64 y] e)) (some ⟨g, 0, none⟩) 2 [x, y] := zs_lit w [x, y] rfl rfl hg
theorem lit3 {e : TypeId} (w : World) (x y z : Int) {g : Nat} (hg : g = w.heap.size) : Zs (w.alloc (.cells #[.int .i64 x, .int .i64 y, .int .i64 z] e)) (some ⟨g, 0, none⟩) 3 [x, y, z] := zs_lit w [x, y, z] rfl rfl hg

theorem cap_of_isRow {k : IntKind} {w : World} {a : Option Addr} {len cap : Nat} {q : List Int} (h : IsRow k w a len cap q) : len ≤ cap := by
  rcases h with ⟨_, rfl, rfl, _⟩ | ⟨_, _, h, _⟩
  · exact Nat.le_refl _
  · exact h
theorem room_of_owned {e : TypeId} {B : Nat} {w : World} {v : Value} {n : Nat} {xs : List Value} (h : w.ownsRow B e 1 v n xs) : ∀ a m c, v = .slice a m c → m ≤ c := fun a m c hv => by
  rcases h.2 with ⟨rfl, rfl⟩ | ⟨g, cap, cur, rfl, _, _, hnc, _⟩
  · cases hv
    exact Nat.le_refl _
  · cases hv
    exact hnc

theorem pAuto_int (a : Option Addr) (n cap O : Nat) (o : Int) (ho : o = O) (zs : List Int) (w : World) (hz : Zs w a n zs) (hn : n ≤ 960) (h1 : 1 ≤ O) (hO : O ≤ 32) :
    Calls Try.prog 10 #[.slice a n cap, .int .i64 o] w fun e w' => ∃ a' c', e = .returned (.tuple #[.slice a' (O + 1) c', .int .i64 0]) ∧ NewRow 2 w.heap.size w' a' (autoL zs O) ∧ Below w.heap.size w w' := by
  subst ho
  exact pAuto_yes a n cap O zs w hz hn h1 hO
theorem pBest_int (a : Option Addr) (n cap N : Nat) (o : Int) (ho : o = N) (zs : List Int) (w : World) (hz : Zs w a n zs) (hn : n ≤ 960) (hN : N = 10 ∨ N = 16) :
    Calls Try.prog 13 #[.slice a n cap, .int .i64 o] w fun e w' => e = .returned (.tuple #[.int .i64 ((foundZ zs N : Nat) : Int), .int .i64 0]) ∧ Below w.heap.size w w' := by
  subst ho
  exact pBest_yes a n cap N zs w hz hn hN

theorem twoL_take_succ {zs : List Int} {k : Nat} (h : k < zs.length) : twoL (zs.take k) ++ [2 * (zs[k]?.getD 0)] = twoL (zs.take (k + 1)) := by
  rw [take_snoc h]
  unfold twoL
  rw [List.map_append]
  rfl
theorem within_all {zs : List Int} {n : Nat} (hl : zs.length = n) (h : ∀ i, i < n → -16383 ≤ zs[i]?.getD 0 ∧ zs[i]?.getD 0 ≤ 16383) (i : Nat) : -16383 ≤ zs[i]?.getD 0 ∧ zs[i]?.getD 0 ≤ 16383 := by
  rcases Nat.lt_or_ge i n with h1 | h1
  · exact h i h1
  · rw [List.getElem?_eq_none (by omega)]
    exact ⟨by decide, by decide⟩

set_option maxRecDepth 100000 in
set_option maxHeartbeats 3200000 in
theorem awake_any (w : World) :
    Calls Try.prog 9 #[] w fun e w' => e = .returned (.bool true) ∧ Below w.heap.size w w' := by
  have HT : Hid (autoL [1, 2, 3] 1 = [14, 8] ∧ solveZ [100, 50] = [2046] ∧ restL [5, 5] [4096] = [5, 0] ∧ powI [3, 4] = 25) := ⟨aw_auto, aw_solve, aw_rest, aw_power⟩
  have hb := Below.refl w.heap.size w
  obtain ⟨C, hC⟩ : ∃ C, madeCells #[.int .i64 0] 40 = C := ⟨_, rfl⟩
  have hmk : ∀ W : World, (Instr.makeSlice 23 (.int .i64 40) (.int .i64 40)).run Try.prog W = .ok (.slice (some ⟨W.heap.size, 0, none⟩) 40 40) (W.alloc (.cells C 2)) := fun W => by
    rw [← hC]
    exact run_make_row' (P := Try.prog) 23 2 (.int .i64 0) 8 Try.underlying23 info_int64 rfl .i64 .i64 40 (by decide) (by decide) W
  have HMZ : Hid (∀ W : World, Zs (W.alloc (.cells C 2)) (some ⟨W.heap.size, 0, none⟩) 40 (List.replicate 40 0)) := fun W => by
    rw [← hC]
    exact zs_made W 40 rfl
  have y1 : Hid True := trivial
  clear hC
  go_enter Try.func9, Try.ntmps9
  go_wp2_with (first
    | (go_at_call 10; go_loud (refine (pAuto_int _ 3 3 1 1 rfl [1, 2, 3] _ (lit3 w 1 2 3 rfl) (by decide) (by decide) (by decide)).mono ?_; rw [HT.out.1]; rintro e w1 ⟨a1, c1, rfl, hr1, hb1⟩; replace hb := (hb.alloc (Nat.le_refl _) (.cells #[.int .i64 1, .int .i64 2, .int .i64 3] 2)).trans (hb1.mono (by simp)); clear hb1))
    | (go_at_call 11; go_loud (refine (pSolve_yes _ 2 2 1 [100, 50] _ (lit2 w1 100 50 rfl) rfl (by decide) (by decide)).mono ?_; rw [HT.out.2.1]; rintro e w2 ⟨a2, c2, rfl, hr2, hb2⟩; replace hr1 := (hr1.alloc (.cells #[.int .i64 100, .int .i64 50] 2)).keep hb2; replace hb := (hb.alloc hb.size (.cells #[.int .i64 100, .int .i64 50] 2)).trans (hb2.mono (by simp; have := hb.size; omega)); clear hb2))
    | (go_at_call 12; go_loud (refine (pRest_yes _ _ 2 2 1 1 [5, 5] [4096] _ ((lit2 w2 5 5 rfl).alloc _) (lit1 (w2.alloc (.cells #[.int .i64 5, .int .i64 5] 2)) 4096 (by simp)) (by decide) (by decide) (by decide)).mono ?_; rw [HT.out.2.2.1]; rintro e w3 ⟨a3, c3, rfl, hr3, hb3⟩; have hbx := ((Below.refl w2.heap.size w2).alloc (Nat.le_refl _) (.cells #[.int .i64 5, .int .i64 5] 2)).alloc (by simp) (.cells #[.int .i64 4096] 2); replace hbx := hbx.trans (hb3.mono hbx.size); replace hr1 := hr1.keep hbx; replace hr2 := hr2.keep hbx; replace hb := hb.trans (hbx.mono hb.size); clear hb3 hbx))
    | (go_at_call 13; go_loud (refine (pBest_int _ 40 40 10 10 rfl _ _ (HMZ.out w3) (by decide) (.inl rfl)).mono ?_; rintro e w4 ⟨rfl, hb4⟩; have hbx := ((Below.refl w3.heap.size w3).alloc (Nat.le_refl _) (.cells C 2)); replace hbx := hbx.trans (hb4.mono hbx.size); replace hr1 := hr1.keep hbx; replace hr2 := hr2.keep hbx; replace hr3 := hr3.keep hbx; replace hb := hb.trans (hbx.mono hb.size); obtain ⟨g2, rfl, _, _⟩ := hr2.some_of (by decide); clear hb4 hbx))
    | (go_at_call 14; clear y1; go_loud (refine (zsame_any _ _ 2 _ 2 [14, 8] _ ((Zs.of_new hr1 rfl).alloc _) (lit2 w4 14 8 rfl) (by decide)).mono ?_; rintro e w5 ⟨rfl, k5, hw5⟩; replace hb := below_drewN (hb.alloc hb.size (.cells #[.int .i64 14, .int .i64 8] 2)) k5; replace hr2 := (hr2.alloc (.cells #[.int .i64 14, .int .i64 8] 2)).drewN k5; replace hr3 := (hr3.alloc (.cells #[.int .i64 14, .int .i64 8] 2)).drewN k5; rw [← hw5] at hb hr2 hr3; clear hw5; have hc2 := hr2.cellAt (i := 0) (by decide); simp at hc2))
    | (go_at_call 14; go_loud (refine (zsame_any _ _ 2 _ 2 [5, 0] _ ((Zs.of_new hr3 rfl).alloc _) (lit2 w5 5 0 rfl) (by decide)).mono ?_; rintro e w6 ⟨rfl, k6, hw6⟩; replace hb := below_drewN (hb.alloc hb.size (.cells #[.int .i64 5, .int .i64 0] 2)) k6; rw [← hw6] at hb; clear hw6))
    | (go_at_call 15; go_loud (refine (pPower _ 2 2 [3, 4] _ (lit2 w6 3 4 rfl) (by unfold maxLen; omega) (by decide)).mono ?_; rw [HT.out.2.2.2]; rintro e w7 ⟨rfl, hb7⟩; replace hb := (hb.alloc hb.size (.cells #[.int .i64 3, .int .i64 4] 2)).trans (hb7.mono (by rw [World.size_alloc]; exact Nat.le_succ_of_le hb.size)))))
  go_ret
  exact ⟨rfl, hb⟩

end Lev
end Go.Proofs.Ytjaccokmficfdaa
