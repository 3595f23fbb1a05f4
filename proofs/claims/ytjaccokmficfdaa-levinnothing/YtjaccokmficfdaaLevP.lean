/- Package levin's five calls, each in one word: what the laws of layer 12 ask. -/
import Derived.Test.YtjaccokmficfdaaLevD
import Derived.Test.YtjaccokmficfdaaLevF
import Derived.Test.YtjaccokmficfdaaLevK
import Derived.Test.YtjaccokmficfdaaLsfH
import Derived.Test.YtjaccokmficfdaaLpcI
namespace Go.Proofs.Ytjaccokmficfdaa
namespace Lev
open Go.RowKit

theorem pAuto_yes (a : Option Addr) (n cap O : Nat) (zs : List Int) (w : World) (hz : Zs w a n zs) (hn : n ≤ 960) (h1 : 1 ≤ O) (hO : O ≤ 32) :
    Calls Try.prog 10 #[.slice a n cap, .int .i64 O] w fun e w' => ∃ a' c', e = .returned (.tuple #[.slice a' (O + 1) c', .int .i64 0]) ∧ NewRow 2 w.heap.size w' a' (autoL zs O) ∧ Below w.heap.size w w' :=
  (qAuto_yes a n cap O zs w hz hn h1 hO).mono fun _ _ ⟨a', he, h⟩ => ⟨a', _, he, h⟩

theorem pAuto_no (a : Option Addr) (n cap : Nat) (o : Int) (zs : List Int) (w : World) (_hz : Zs w a n zs) (_hn : n ≤ maxLen) (h : ¬ (n ≤ 960 ∧ 1 ≤ o ∧ o ≤ 32)) :
    Calls Try.prog 10 #[.slice a n cap, .int .i64 o] w fun e w' => e = .returned (.tuple #[.slice none 0 0, .int .i64 1]) ∧ Below w.heap.size w w' :=
  (qAuto_no a n cap o w h).mono fun _ _ ⟨he, hw⟩ => ⟨he, by rw [hw]; exact Below.refl _ _⟩

theorem pSolve_yes (a : Option Addr) (n cap o : Nat) (zs : List Int) (w : World) (hz : Zs w a n zs) (hno : n = o + 1) (ho1 : 1 ≤ o) (ho : o ≤ 32) :
    Calls Try.prog 11 #[.slice a n cap] w fun e w' => ∃ a' c', e = .returned (.tuple #[.slice a' o c', .int .i64 0]) ∧ NewRow 2 w.heap.size w' a' (solveZ zs) ∧ Below w.heap.size w w' := by
  by_cases h0 : r0Z zs < 1
  · exact (qSolve_nought a n cap o zs w hz hno ho1 ho h0).mono fun _ _ ⟨a', he, h⟩ => ⟨a', _, he, h⟩
  · exact (qSolve_some a n cap o zs w hz hno ho1 ho h0).mono fun _ _ ⟨a', he, h⟩ => ⟨a', _, he, h⟩

theorem pSolve_no (a : Option Addr) (n cap : Nat) (zs : List Int) (w : World) (_hz : Zs w a n zs) (_hn : n ≤ maxLen) (h : ¬ (2 ≤ n ∧ n ≤ 33)) :
    Calls Try.prog 11 #[.slice a n cap] w fun e w' => e = .returned (.tuple #[.slice none 0 0, .int .i64 1]) ∧ Below w.heap.size w w' :=
  (qSolve_no a n cap w h).mono fun _ _ ⟨he, hw⟩ => ⟨he, by rw [hw]; exact Below.refl _ _⟩

theorem pRest_yes (a1 a2 : Option Addr) (n c1 p c2 : Nat) (zs fs : List Int) (w : World) (hz1 : Zs w a1 n zs) (hz2 : Zs w a2 p fs) (hn : n ≤ 960) (hp : p ≤ 32) (hcap : p ≤ c2) :
    Calls Try.prog 12 #[.slice a1 n c1, .slice a2 p c2] w fun e w' => ∃ a' c', e = .returned (.tuple #[.slice a' n c', .int .i64 0]) ∧ NewRow 2 w.heap.size w' a' (restL zs fs) ∧ Below w.heap.size w w' :=
  (qRest_yes a1 a2 n c1 p c2 zs fs w hz1 hz2 hn hp hcap).mono fun _ _ ⟨a', he, h⟩ => ⟨a', _, he, h⟩

theorem pRest_no (a1 a2 : Option Addr) (n c1 p c2 : Nat) (zs fs : List Int) (w : World) (_hz1 : Zs w a1 n zs) (_hz2 : Zs w a2 p fs) (_hn : n ≤ maxLen) (_hp : p ≤ maxLen) (h : ¬ (n ≤ 960 ∧ p ≤ 32)) :
    Calls Try.prog 12 #[.slice a1 n c1, .slice a2 p c2] w fun e w' => e = .returned (.tuple #[.slice none 0 0, .int .i64 1]) ∧ Below w.heap.size w w' :=
  (qRest_no a1 a2 n c1 p c2 w h).mono fun _ _ ⟨he, hw⟩ => ⟨he, by rw [hw]; exact Below.refl _ _⟩

theorem pPower (a : Option Addr) (n cap : Nat) (zs : List Int) (w : World) (hz : Zs w a n zs) (hn : n ≤ maxLen) (hcap : n ≤ cap) :
    Calls Try.prog 15 #[.slice a n cap] w fun e w' => e = .returned (.int .i64 (powI zs)) ∧ Below w.heap.size w w' :=
  (qPower a n cap zs w hz hn hcap).mono fun _ _ ⟨he, hw⟩ => ⟨he, by rw [hw]; exact Below.refl _ _⟩

set_option maxRecDepth 100000 in
set_option maxHeartbeats 1600000 in
theorem powerLeft_any (a : Option Addr) (n cap N i : Nat) (zs : List Int) (w : World) (hz : Zs w a n zs) (hn : n ≤ 960) (hN : N = 10 ∨ N = 16) (hi : i < 16) :
    Calls Try.prog 28 #[.slice a n cap, .int .i64 N, .int .i64 i] w fun e w' => e = .returned (.int .i64 (leftZ zs N i)) ∧ Below w.heap.size w w' := by
  have HZ : Hid (∀ W, Below w.heap.size w W → Zs W a n zs) := fun W hW => hz.keep hW
  have HN : Hid ((N = 10 ∨ N = 16) ∧ n ≤ 960 ∧ zs.length = n) := ⟨hN, hn, hz.len⟩
  have hmk := fun W : World => run_make_row' (P := Try.prog) 51 3 (.int .i64 0) 8 Try.underlying51 info_int rfl .i64 .i64 N (by omega) (by omega) W
  have HX : Hid (GoodX (N : Int) (i : Int) (List.replicate N 0)) := plain_good hN hi
  have HLK : Hid (powI (restL zs (fromZ (decodeZ (N : Int) (i : Int) (List.replicate N 0)))) = leftZ zs N i) := rfl
  have HLR : Hid ((fromZ (decodeZ (N : Int) (i : Int) (List.replicate N 0))).length = N) := by
    show _ = _
    rw [fromZ_len (by rw [decodeZ_len]; omega), decodeZ_len]
    omega
  have HLD : Hid ((decodeZ (N : Int) (i : Int) (List.replicate N 0)).length = N) := by
    show _ = _
    rw [decodeZ_len]
    omega
  have HHALF : Hid (∃ h, N = 10 ∧ h = 5 ∨ N = 16 ∧ h = 8) := by
    rcases hN with h | h
    · exact ⟨5, .inl ⟨h, rfl⟩⟩
    · exact ⟨8, .inr ⟨h, rfl⟩⟩
  obtain ⟨hf, hhf⟩ := HHALF.out
  have HHF : Hid (N = 10 ∧ hf = 5 ∨ N = 16 ∧ hf = 8) := hhf
  obtain ⟨dl, hdl⟩ : ∃ dl, decodeZ (N : Int) (i : Int) (List.replicate N 0) = dl := ⟨_, rfl⟩
  have HDC : Hid (decodeZ (N : Int) (i : Int) (List.replicate N 0) = dl) := hdl
  rw [hdl] at HLK HLD HLR
  have hb0 : Below w.heap.size w (w.alloc (.cells (madeCells #[.int .i64 0] N) 3)) := (Below.refl _ _).alloc (Nat.le_refl _) _
  clear hz hn hN hi hhf hdl
  generalize leftZ zs N i = p at *
  go_enter Try.func28, Try.ntmps28
  go_wp2_with (first
    | (go_at_call 47; go_loud (refine (decode_good (N : Int) (i : Int) _ N N (List.replicate N 0) _ (zs_made _ N rfl) (by have := HN.out.1; unfold maxLen; omega) HX.out).mono ?_; rw [HDC.out]; rintro e w1 ⟨a1, rfl, hr1, hb1⟩; have hb2 := hb0.trans (hb1.mono (by simp)); clear hb1))
    | (go_at_call 48; go_loud (refine (cfrom_any a1 N N hf dl _ (Zs.of_new hr1 HLD.out) HHF.out).mono ?_; rintro e w3 ⟨a3, rfl, hr3, hb3⟩; replace hb2 := hb2.trans (hb3.mono hb2.size); clear hb3))
    | (go_at_call 12; go_loud (refine (qRest_yes a a3 n cap N N zs (fromZ dl) _ (HZ.out _ hb2) (Zs.of_new hr3 HLR.out) HN.out.2.1 (by have := HN.out.1; omega) (Nat.le_refl _)).mono ?_; rintro e w4 ⟨a4, rfl, hr4, hb4⟩; replace hb2 := hb2.trans (hb4.mono hb2.size); clear hb4))
    | (go_at_call 15; go_loud (refine (qPower a4 n n (restL zs (fromZ dl)) _ (Zs.of_new hr4 (by rw [restL_len]; exact HN.out.2.2)) (by have := HN.out.2.1; unfold maxLen; omega) (Nat.le_refl _)).mono ?_; rw [HLK.out]; rintro e w4 ⟨rfl, rfl⟩)))
  go_ret
  exact ⟨rfl, hb2⟩

theorem powerLeft_first (a : Option Addr) (n cap N : Nat) (zs : List Int) (w : World) (hz : Zs w a n zs) (hn : n ≤ 960) (hN : N = 10 ∨ N = 16) :
    Calls Try.prog 28 #[.slice a n cap, .int .i64 N, .int .i64 0] w fun e w' => e = .returned (.int .i64 (leftZ zs N 0)) ∧ Below w.heap.size w w' :=
  powerLeft_any a n cap N 0 zs w hz hn hN (by decide)

theorem pBest_no (a : Option Addr) (n cap : Nat) (o : Int) (zs : List Int) (w : World) (_hz : Zs w a n zs) (_hn : n ≤ maxLen) (h : ¬ (n ≤ 960 ∧ (o = 10 ∨ o = 16))) :
    Calls Try.prog 13 #[.slice a n cap, .int .i64 o] w fun e w' => e = .returned (.tuple #[.int .i64 0, .int .i64 1]) ∧ Below w.heap.size w w' := by
  have HB : Hid (Below w.heap.size w w) := Below.refl _ _
  by_cases h1 : o = 10
  · subst h1
    have h9 : ¬ n ≤ 960 := fun h9 => h ⟨h9, .inl rfl⟩
    clear h _hz
    go_enter Try.func13, Try.ntmps13
    go_wp2
    go_ret2
    exact ⟨rfl, HB.out⟩
  · have e1 : (o != 10) = true := by simpa using h1
    by_cases h2 : o = 16
    · subst h2
      have h9 : ¬ n ≤ 960 := fun h9 => h ⟨h9, .inr rfl⟩
      clear h _hz
      go_enter Try.func13, Try.ntmps13
      go_wp2
      go_ret2
      exact ⟨rfl, HB.out⟩
    · have e2 : (o != 16) = true := by simpa using h2
      clear h _hz
      go_enter Try.func13, Try.ntmps13
      go_wp2
      go_ret2
      exact ⟨rfl, HB.out⟩

set_option maxRecDepth 100000 in
set_option maxHeartbeats 1600000 in
theorem pBest_yes (a : Option Addr) (n cap N : Nat) (zs : List Int) (w : World) (hz : Zs w a n zs) (hn : n ≤ 960) (hN : N = 10 ∨ N = 16) :
    Calls Try.prog 13 #[.slice a n cap, .int .i64 N] w fun e w' => e = .returned (.tuple #[.int .i64 ((foundZ zs N : Nat) : Int), .int .i64 0]) ∧ Below w.heap.size w w' := by
  have HZ : Hid (∀ W, Below w.heap.size w W → Zs W a n zs) := fun W hW => hz.keep hW
  have HN : Hid ((N = 10 ∨ N = 16) ∧ n ≤ 960) := ⟨hN, hn⟩
  have hpick : (((N : Int) != 10) = false) ∨ (((N : Int) != 10) = true ∧ ((N : Int) != 16) = false) := by
    rcases hN with h | h <;> subst h <;> simp
  have HB1 : Hid (bestN (leftZ zs N) 1 = 0) := by
    show _ = _
    rw [bestN_step]
    simp [bestN]
  have HSTEP : Hid (∀ k, bestN (leftZ zs N) (k + 1) = if leftZ zs N k < leftZ zs N (bestN (leftZ zs N) k) then k else bestN (leftZ zs N) k) := fun k => bestN_step _ _
  have HE : Hid (foundZ zs N = bestN (leftZ zs N) 16) := rfl
  have HLC : Hid (∀ (k : Nat) (W : World), k < 16 → Below w.heap.size w W → Calls Try.prog 28 #[.slice a n cap, .int .i64 N, .int .i64 k] W fun e w' => e = .returned (.int .i64 (leftZ zs N k)) ∧ Below W.heap.size W w') := fun k W hk hW => powerLeft_any a n cap N k zs W (hz.keep hW) hn hN hk
  have HL0 : Hid (Calls Try.prog 28 #[.slice a n cap, .int .i64 N, .int .i64 0] w fun e w' => e = .returned (.int .i64 (leftZ zs N 0)) ∧ Below w.heap.size w w') := powerLeft_first a n cap N zs w hz hn hN
  have y1 : Hid True := trivial
  have hn9 : n ≤ 960 := hn
  have hn9I : (n : Int) ≤ 960 := by omega
  generalize leftZ zs N = f at *
  clear hz hn hN
  rcases hpick with hp1 | ⟨hp1, hp2⟩
  all_goals
    go_enter Try.func13, Try.ntmps13
    go_wp2_with (go_at_call 28; go_loud (refine HL0.out.mono ?_; rintro e w1 ⟨rfl, hb1⟩; have HB0 : Hid (Below w.heap.size w w1) := hb1; clear hb1))
    go_loopw [6, 7, 8] (fun b l i W => ∃ k : Nat, 1 ≤ k ∧ k ≤ 16 ∧ i = .int .i64 k ∧ b = .int .i64 ((bestN f k : Nat) : Int) ∧ l = .int .i64 (f (bestN f k)) ∧ Hid (Below w.heap.size w W)) (fun _ _ i _ => 16 - (intOf i).toNat)
    case atStart => exact ⟨1, Nat.le_refl _, by decide, rfl, by rw [HB1.out]; rfl, by rw [HB1.out], HB0⟩
    case round =>
      clear HB0 HL0
      obtain ⟨k, hk1, hk, rfl, rfl, rfl, HH⟩ := hrel
      by_cases hlt : k < 16
      · have hs := HSTEP.out k
        have HCK : Hid (Calls Try.prog 28 #[.slice a n cap, .int .i64 N, .int .i64 k] wr fun e w' => e = .returned (.int .i64 (f k)) ∧ Below wr.heap.size wr w') := HLC.out k wr hlt HH.out
        by_cases hc : f k < f (bestN f k)
        · rw [if_pos hc] at hs
          have HS : Hid (bestN f (k + 1) = k) := hs
          clear hs
          go_wp2_with (go_at_call 28; go_loud (refine HCK.out.mono ?_; rintro e w2 ⟨rfl, hb2⟩; have HB2 : Hid (Below w.heap.size w w2) := HH.out.trans (hb2.mono HH.out.size); clear hb2))
          go_roundw
          case rel => exact ⟨k + 1, by omega, by omega, by go_num, by rw [HS.out], by rw [HS.out], HB2⟩
          case measure => simp [intOf]; omega
        · rw [if_neg hc] at hs
          have HS : Hid (bestN f (k + 1) = bestN f k) := hs
          clear hs
          go_wp2_with (go_at_call 28; go_loud (refine HCK.out.mono ?_; rintro e w2 ⟨rfl, hb2⟩; have HB2 : Hid (Below w.heap.size w w2) := HH.out.trans (hb2.mono HH.out.size); clear hb2))
          go_roundw
          case rel => exact ⟨k + 1, by omega, by omega, by go_num, by rw [HS.out], by rw [HS.out], HB2⟩
          case measure => simp [intOf]; omega
      · obtain rfl : k = 16 := by omega
        go_wp2
        go_ret2
        rw [HE.out]
        exact ⟨rfl, HH.out⟩

end Lev
end Go.Proofs.Ytjaccokmficfdaa
