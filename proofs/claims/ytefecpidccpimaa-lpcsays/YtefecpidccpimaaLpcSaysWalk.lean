/- The law of all of chapter 7 answers true. -/
import Derived.Test.YtefecpidccpimaaLpcX
namespace Go.Proofs.Ytefecpidccpimaa
open Go.RowKit

set_option maxHeartbeats 1000000 in
theorem says_far (l : Option Addr) (m c0 : Nat) (a : Option Addr) (n cap : Nat) (c : Int) (w : World) (h : 40 < m ∨ 40 < n) (_hm : m ≤ 9223372036854775807) (_hn : n ≤ 9223372036854775807) :
    Calls Try.prog 4 #[.slice l m c0, .slice a n cap, .int .i64 c] w fun e w' => e = .returned (.bool true) ∧ Below w.heap.size w w' := by
  by_cases h1 : 40 < m
  · have e1 : ((40 : Int) < (m : Int)) = True := eq_true (by omega)
    go_enter Try.func4, Try.ntmps4
    go_wp2_with (go_at_call 9; refine (awake_any _).mono ?_; rintro e w1 ⟨rfl, hB⟩)
    go_ret
    exact ⟨rfl, hB⟩
  · have e1 : ((40 : Int) < (m : Int)) = False := eq_false (by omega)
    have e2 : ((40 : Int) < (n : Int)) = True := eq_true (by omega)
    go_enter Try.func4, Try.ntmps4
    go_wp2_with (go_at_call 9; refine (awake_any _).mono ?_; rintro e w1 ⟨rfl, hB⟩)
    go_ret
    exact ⟨rfl, hB⟩

set_option maxRecDepth 100000 in
set_option maxHeartbeats 8000000 in
theorem says_near (l : Option Addr) (m c0 : Nat) (ls : List Int) (a : Option Addr) (n cap : Nat) (zs : List Int) (c : Int) (w : World) (hzl : Zs w l m ls) (hz : Zs w a n zs) (hm : m ≤ 40) (hn : n ≤ 40) (h : (m ≠ 10 ∧ m ≠ 16) ∨ (∃ h, m = 10 ∧ h = 5 ∨ m = 16 ∧ h = 8)) :
    Calls Try.prog 4 #[.slice l m c0, .slice a n cap, .int .i64 c] w fun e w' => e = .returned (.bool true) ∧ Below w.heap.size w w' := by
  have g1 : ((40 : Int) < (m : Int)) = False := eq_false (by omega)
  have g2 : ((40 : Int) < (n : Int)) = False := eq_false (by omega)
  have HZL : Hid (∀ W, Below w.heap.size w W → Zs W l m ls) := fun W hW => hzl.keep hW
  have HZA : Hid (∀ W, Below w.heap.size w W → Zs W a n zs) := fun W hW => hz.keep hW
  have hm8 : m * 8 ≤ 140737488355328 := by omega
  have hn8 : n * 8 ≤ 140737488355328 := by omega
  have HLL : Hid (ls.length = m) := hzl.len
  have HLA : Hid (zs.length = n) := hz.len
  have HNF : Hid (nfL zs ≤ 1000) := Nat.le_trans (nfL_le zs) (by decide)
  have HSM : Hid (∀ W a1 a2 k c1 c2 q, Zs W a1 k q → Zs W a2 k q → k ≤ 1000 → Calls Try.prog 15 #[.slice a1 k c1, .slice a2 k c2] W fun e w' => e = .returned (.bool true) ∧ Below W.heap.size W w') := fun W a1 a2 k c1 c2 q h1 h2 hk => by
    refine (zsame_any a1 a2 k c1 c2 q W h1 h2 hk).mono ?_
    rintro e w' ⟨rfl, d, rfl⟩
    exact ⟨rfl, below_drewN (Below.refl _ _) d⟩
  have eg : (gainZ zs == gainZ zs) = true := by simp
  have HCA : Hid (∀ W, Below w.heap.size w W → 0 < n → ∃ x, a = some x ∧ ∀ i, i < n → W.cell? (x.add i) = some (.int .i64 (zs[i]?.getD 0))) := fun W hW h => zs_adds (HZA.out W hW) h
  have HCLL : Hid (∀ W, Below w.heap.size w W → 0 < m → ∃ x, l = some x ∧ ∀ i, i < m → W.cell? (x.add i) = some (.int .i64 (ls[i]?.getD 0))) := fun W hW h => zs_adds (HZL.out W hW) h
  have y1 : Hid True := trivial
  have y2 : Hid True := trivial
  have y3 : Hid True := trivial
  clear hzl hz
  rcases h with ⟨h10, h16⟩ | ⟨hh, hgood⟩
  · have e1 : ((m : Int) != 10) = true := by simp; omega
    have e2 : ((m : Int) != 16) = true := by simp; omega
    go_enter Try.func4, Try.ntmps4
    go_wp2_with (first
      | (go_at_call 9; refine (awake_any _).mono ?_; rintro e w1 ⟨rfl, hB1⟩)
      | (at_builtin; clear y1; go_loud (refine wpList_append_copy 23 2 Try.underlying23 info_int64 l m c0 ls HLL.out hm8 (HCLL.out _ hB1) rfl _ _ rfl rfl rfl ?_; intro r2 c2 w2 hn2 hb2; have hB2 := hB1.trans (hb2.mono hB1.size); clear hb2))
      | (go_at_call 10; go_loud (refine (cfrom_far _ m _ _ h10 h16).mono ?_; rintro e _ ⟨rfl, rfl⟩))
      | (at_builtin; clear y2; go_loud (refine wpList_append_copy 23 2 Try.underlying23 info_int64 a n cap zs HLA.out hn8 (HCA.out _ hB2) rfl _ _ rfl rfl rfl ?_; intro r3 c3 w3 hn3 hb3; have hz3 := Zs.of_new hn3 HLA.out; have hB3 := hB2.trans (hb3.mono hB2.size); clear hb3 hn3))
      | (go_at_call 11; go_loud (refine (u_stable _ _ _ zs _ hz3).mono ?_; rintro e w4 ⟨rfl, hb4⟩; have hB4 := hB3.trans (hb4.mono hB3.size); clear hb4))
      | (go_at_call 17; go_loud (refine (u_rstable _ _ _ zs _ (HZA.out _ hB4)).mono ?_; rintro e w5 ⟨rfl, hb5⟩; have hB5 := hB4.trans (hb5.mono hB4.size); clear hb5))
      | (at_builtin; go_loud (refine wpList_append_copy 23 2 Try.underlying23 info_int64 a n cap zs HLA.out hn8 (HCA.out _ hB5) rfl _ _ rfl rfl rfl ?_; intro r6 c6 w6 hn6 hb6; have hz6 := Zs.of_new hn6 HLA.out; have hB6 := hB5.trans (hb6.mono hB5.size); clear hb6 hn6))
      | (go_at_call 12; go_loud (refine (u_fit _ _ _ zs _ hz6).mono ?_; rintro e w7 ⟨a7, c7, rfl, hz7, hb7⟩; have hB7 := hB6.trans (hb7.mono hB6.size); clear hb7))
      | (go_at_call 18; go_loud (refine (u_rfit _ _ _ zs _ (HZA.out _ hB7)).mono ?_; rintro e w8 ⟨a8, c8, rfl, hz8, hb8⟩; have hz9 := hz7.keep hb8; have hB8 := hB7.trans (hb8.mono hB7.size); clear hb8))
      | (go_at_call 15; clear y3; go_loud (refine (HSM.out _ _ _ _ _ _ _ hz9 hz8 HNF.out).mono ?_; rintro e w9 ⟨rfl, hb9⟩; have hB9 := hB8.trans (hb9.mono hB8.size); clear hb9))
      | (go_at_call 13; go_loud (refine (u_chirp _ _ _ zs _ (HZA.out _ hB9) c).mono ?_; rintro e w10 ⟨a10, c10, rfl, hz10, hb10⟩; have hB10 := hB9.trans (hb10.mono hB9.size); clear hb10))
      | (go_at_call 19; go_loud (refine (u_rchirp _ _ _ zs _ (HZA.out _ hB10) c).mono ?_; rintro e w11 ⟨a11, c11, rfl, hz11, hb11⟩; have hz12 := hz10.keep hb11; have hB11 := hB10.trans (hb11.mono hB10.size); clear hb11))
      | (go_at_call 15; go_loud (refine (HSM.out _ _ _ _ _ _ _ hz12 hz11 HNF.out).mono ?_; rintro e w12 ⟨rfl, hb12⟩; have hB12 := hB11.trans (hb12.mono hB11.size); clear hb12))
      | (go_at_call 14; go_loud (refine (u_gain _ _ _ zs _ (HZA.out _ hB12)).mono ?_; rintro e w13 ⟨rfl, hb13⟩; have hB13 := hB12.trans (hb13.mono hB12.size); clear hb13))
      | (go_at_call 20; go_loud (refine (u_rgain _ _ _ zs _ (HZA.out _ hB13)).mono ?_; rintro e w14 ⟨rfl, hb14⟩; have hB14 := hB13.trans (hb14.mono hB13.size); clear hb14)))
    go_ret
    exact ⟨by simp, hB14⟩
  · have HXL : Hid ((fromZ ls).length = m) := by show _ = _; rw [fromZ_len (by rw [HLL.out]; omega), HLL.out]
    have hm1000 : m ≤ 1000 := by omega
    have y4 : Hid True := trivial
    have e0 : ((m : Int) != 10) = false ∨ ((m : Int) != 10) = true ∧ ((m : Int) != 16) = false := by
      rcases hgood with ⟨rfl, _⟩ | ⟨rfl, _⟩
      · exact .inl rfl
      · exact .inr ⟨rfl, rfl⟩
    have HG : Hid (m = 10 ∧ hh = 5 ∨ m = 16 ∧ hh = 8) := hgood
    clear hgood
    rcases e0 with e1 | ⟨e1, e2⟩
    all_goals
      go_enter Try.func4, Try.ntmps4
      go_wp2_with (first
        | (go_at_call 9; refine (awake_any _).mono ?_; rintro e w1 ⟨rfl, hB1⟩)
        | (at_builtin; clear y1; go_loud (refine wpList_append_copy 23 2 Try.underlying23 info_int64 l m c0 ls HLL.out hm8 (HCLL.out _ hB1) rfl _ _ rfl rfl rfl ?_; intro r2 c2 w2 hn2 hb2; have hz2 := Zs.of_new hn2 HLL.out; have hBa := hB1.trans (hb2.mono hB1.size); clear hb2 hn2))
        | (go_at_call 10; go_loud (refine (cfrom_any _ m _ hh ls _ hz2 HG.out).mono ?_; rintro e wb ⟨ab, rfl, hnb, hbb⟩; have hzb := Zs.of_new hnb HXL.out; have hBb := hBa.trans (hbb.mono hBa.size); clear hbb hnb))
        | (go_at_call 16; go_loud (refine (rfrom_any _ m _ hh ls _ (HZL.out _ hBb) HG.out).mono ?_; rintro e wd ⟨ad, cd, rfl, hnd, hbd⟩; have hzd := Zs.of_new hnd HXL.out; have hze := hzb.keep hbd; have hBd := hBb.trans (hbd.mono hBb.size); clear hbd hnd))
        | (go_at_call 15; clear y3; go_loud (refine (HSM.out _ _ _ _ _ _ _ hze hzd hm1000).mono ?_; rintro e wf ⟨rfl, hbf⟩; have hB2 := hBd.trans (hbf.mono hBd.size); clear hbf))
        | (at_builtin; clear y2; go_loud (refine wpList_append_copy 23 2 Try.underlying23 info_int64 a n cap zs HLA.out hn8 (HCA.out _ hB2) rfl _ _ rfl rfl rfl ?_; intro r3 c3 w3 hn3 hb3; have hz3 := Zs.of_new hn3 HLA.out; have hB3 := hB2.trans (hb3.mono hB2.size); clear hb3 hn3))
        | (go_at_call 11; go_loud (refine (u_stable _ _ _ zs _ hz3).mono ?_; rintro e w4 ⟨rfl, hb4⟩; have hB4 := hB3.trans (hb4.mono hB3.size); clear hb4))
        | (go_at_call 17; go_loud (refine (u_rstable _ _ _ zs _ (HZA.out _ hB4)).mono ?_; rintro e w5 ⟨rfl, hb5⟩; have hB5 := hB4.trans (hb5.mono hB4.size); clear hb5))
        | (at_builtin; go_loud (refine wpList_append_copy 23 2 Try.underlying23 info_int64 a n cap zs HLA.out hn8 (HCA.out _ hB5) rfl _ _ rfl rfl rfl ?_; intro r6 c6 w6 hn6 hb6; have hz6 := Zs.of_new hn6 HLA.out; have hB6 := hB5.trans (hb6.mono hB5.size); clear hb6 hn6))
        | (go_at_call 12; go_loud (refine (u_fit _ _ _ zs _ hz6).mono ?_; rintro e w7 ⟨a7, c7, rfl, hz7, hb7⟩; have hB7 := hB6.trans (hb7.mono hB6.size); clear hb7))
        | (go_at_call 18; go_loud (refine (u_rfit _ _ _ zs _ (HZA.out _ hB7)).mono ?_; rintro e w8 ⟨a8, c8, rfl, hz8, hb8⟩; have hz9 := hz7.keep hb8; have hB8 := hB7.trans (hb8.mono hB7.size); clear hb8))
        | (go_at_call 15; clear y4; go_loud (refine (HSM.out _ _ _ _ _ _ _ hz9 hz8 HNF.out).mono ?_; rintro e w9 ⟨rfl, hb9⟩; have hB9 := hB8.trans (hb9.mono hB8.size); clear hb9))
        | (go_at_call 13; go_loud (refine (u_chirp _ _ _ zs _ (HZA.out _ hB9) c).mono ?_; rintro e w10 ⟨a10, c10, rfl, hz10, hb10⟩; have hB10 := hB9.trans (hb10.mono hB9.size); clear hb10))
        | (go_at_call 19; go_loud (refine (u_rchirp _ _ _ zs _ (HZA.out _ hB10) c).mono ?_; rintro e w11 ⟨a11, c11, rfl, hz11, hb11⟩; have hz12 := hz10.keep hb11; have hB11 := hB10.trans (hb11.mono hB10.size); clear hb11))
        | (go_at_call 15; go_loud (refine (HSM.out _ _ _ _ _ _ _ hz12 hz11 HNF.out).mono ?_; rintro e w12 ⟨rfl, hb12⟩; have hB12 := hB11.trans (hb12.mono hB11.size); clear hb12))
        | (go_at_call 14; go_loud (refine (u_gain _ _ _ zs _ (HZA.out _ hB12)).mono ?_; rintro e w13 ⟨rfl, hb13⟩; have hB13 := hB12.trans (hb13.mono hB12.size); clear hb13))
        | (go_at_call 20; go_loud (refine (u_rgain _ _ _ zs _ (HZA.out _ hB13)).mono ?_; rintro e w14 ⟨rfl, hb14⟩; have hB14 := hB13.trans (hb14.mono hB13.size); clear hb14)))
      go_ret
      exact ⟨by simp, hB14⟩

theorem lpcSays.walk (a0 : Option Addr) (l0 c0 : Nat) (z0 : List Int) (a1 : Option Addr) (l1 c1 : Nat) (z1 : List Int) (c : Int) (w : World) (h0 : IsRow .i64 w a0 l0 c0 z0) (h1 : IsRow .i64 w a1 l1 c1 z1) (_h2 : (Lit.int .i64 c).wf = true) :
    Calls Try.prog 4 #[.slice a0 l0 c0, .slice a1 l1 c1, .int .i64 c] w fun e w' => e = .returned (.bool true) ∧ Below w.heap.size w w' := by
  obtain ⟨hz0, hm0, _⟩ := Zs.of_isRow h0
  obtain ⟨hz1, hm1, _⟩ := Zs.of_isRow h1
  by_cases h : 40 < l0 ∨ 40 < l1
  · exact says_far a0 l0 c0 a1 l1 c1 c w h (by unfold maxLen at hm0; omega) (by unfold maxLen at hm1; omega)
  · refine says_near a0 l0 c0 _ a1 l1 c1 _ c w hz0 hz1 (by omega) (by omega) ?_
    by_cases h10 : l0 = 10
    · exact .inr ⟨5, .inl ⟨h10, rfl⟩⟩
    · by_cases h16 : l0 = 16
      · exact .inr ⟨8, .inr ⟨h16, rfl⟩⟩
      · exact .inl ⟨h10, h16⟩

end Go.Proofs.Ytefecpidccpimaa
