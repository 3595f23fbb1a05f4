/- The law of filters that die away answers true. -/
import Derived.Test.YtefecpidccpimaaLpcJ
import Derived.Test.YtefecpidccpimaaNumB
namespace Go.Proofs.Ytefecpidccpimaa
open Go.RowKit

set_option maxHeartbeats 1000000 in
theorem dies_far (l : Option Addr) (m c0 : Nat) (a : Option Addr) (n cap : Nat) (w : World) (hn : 32 < n) (_h63 : n ≤ 9223372036854775807) :
    Calls Try.prog 5 #[.slice l m c0, .slice a n cap] w fun e w' => e = .returned (.bool true) ∧ Below w.heap.size w w' := by
  have hn' : ((32 : Int) < n) = True := eq_true (by omega)
  go_enter Try.func5, Try.ntmps5
  go_wp2_with (go_at_call 9; refine (awake_any _).mono ?_; rintro e w1 ⟨rfl, hB⟩)
  go_ret
  exact ⟨rfl, hB⟩

/-- Fitted, it is Stable, and stays. -/
theorem held_stable {f : List Int} {n : Nat} (hs : stableZ f = true) (hn : n ≤ 32) (W : World) (a : Option Addr) (hz : Zs W a n f) : Calls Try.prog 11 #[.slice a n n] W fun e w' => e = .returned (.bool true) ∧ Below W.heap.size W w' := by
  refine (cstable_any a n n f W hz hn).mono ?_
  rw [hs]
  exact fun _ _ h => h
theorem held_fit {f : List Int} {n : Nat} (hf : fitZ f = f) (hl : f.length = n) (hn : n ≤ 32) (W : World) (a : Option Addr) (hz : Zs W a n f) : Calls Try.prog 12 #[.slice a n n] W fun e w' => ∃ a', e = .returned (.slice a' n n) ∧ Zs w' a' n f ∧ Below W.heap.size W w' := by
  refine (cfit_any a n n f W hz hn).mono ?_
  rw [hf]
  rintro e w' ⟨a', rfl, hn1, hb⟩
  exact ⟨a', rfl, Zs.of_new hn1 hl, hb⟩

set_option maxRecDepth 100000 in
set_option maxHeartbeats 2000000 in
theorem dies_none (l : Option Addr) (m c0 : Nat) (a : Option Addr) (n cap : Nat) (zs : List Int) (w : World) (hz : Zs w a n zs) (hn : n ≤ 32) (h10 : m ≠ 10) (h16 : m ≠ 16) :
    Calls Try.prog 5 #[.slice l m c0, .slice a n cap] w fun e w' => e = .returned (.bool true) ∧ Below w.heap.size w w' := by
  have hn' : ((32 : Int) < n) = False := eq_false (by omega)
  have e4 : ((n : Int) != (n : Int)) = false := by simp
  have hl := hz.len
  have HFL : Hid ((fitZ zs).length = n) := by show _ = _; rw [fitZ_len (by omega), hl]
  have HS : Hid (stableZ (fitZ zs) = true) := fitZ_stable (by omega)
  have HA : Hid (fitZ (fitZ zs) = fitZ zs) := fitZ_again (by omega)
  have HFIT : Hid (∀ W, Below w.heap.size w W → Calls Try.prog 12 #[.slice a n cap] W fun e w' => ∃ a', e = .returned (.slice a' n n) ∧ NewRow 2 W.heap.size w' a' (fitZ zs) ∧ Below W.heap.size W w') := fun W hW => cfit_any a n cap zs W (hz.keep hW) hn
  have y1 : Hid True := trivial
  clear hz hl
  generalize fitZ zs = f at *
  go_enter Try.func5, Try.ntmps5
  go_wp2_with (first
    | (go_at_call 9; refine (awake_any _).mono ?_; rintro e w1 ⟨rfl, hB⟩)
    | (go_at_call 12; clear y1; refine (HFIT.out _ hB).mono ?_; rintro e w2 ⟨a2, rfl, hn2, hb2⟩; have hz2 := Zs.of_new hn2 HFL.out; have hB2 := hB.trans (hb2.mono hB.size))
    | (go_at_call 11; refine (held_stable HS.out hn _ _ hz2).mono ?_; rintro e w3 ⟨rfl, hb3⟩; have hz3 := hz2.keep hb3; have hB3 := hB2.trans (hb3.mono hB2.size))
    | (go_at_call 12; refine (held_fit HA.out HFL.out hn _ _ hz3).mono ?_; rintro e w4 ⟨a4, rfl, hz4, hb4⟩; have hz5 := hz3.keep hb4; have hB4 := hB3.trans (hb4.mono hB3.size))
    | (go_at_call 15; refine (zsame_any _ _ n _ _ f _ hz4 hz5 (by omega)).mono ?_; rintro e _ ⟨rfl, d, rfl⟩; have hB5 := below_drewN hB4 d)
    | (go_at_call 10; refine (cfrom_far _ m _ _ h10 h16).mono ?_; rintro e _ ⟨rfl, rfl⟩))
  go_ret
  exact ⟨rfl, hB5⟩


theorem bound_step {v p : Int} {k : Nat} (hv : -(68719476736 * (k : Int)) ≤ v ∧ v ≤ 68719476736 * (k : Int)) (hp : -68719476736 ≤ p ∧ p ≤ 68719476736) : -(68719476736 * ((k + 1 : Nat) : Int)) ≤ v + p ∧ v + p ≤ 68719476736 * ((k + 1 : Nat) : Int) := by
  omega

set_option maxRecDepth 100000 in
set_option maxHeartbeats 8000000 in
theorem dies_go (l : Option Addr) (m c0 h : Nat) (ls : List Int) (a : Option Addr) (n cap : Nat) (zs : List Int) (w : World) (hzl : Zs w l m ls) (hz : Zs w a n zs) (hn : n ≤ 32) (hm : m = 10 ∧ h = 5 ∨ m = 16 ∧ h = 8) :
    Calls Try.prog 5 #[.slice l m c0, .slice a n cap] w fun e w' => e = .returned (.bool true) ∧ Below w.heap.size w w' := by
  have hn' : ((32 : Int) < n) = False := eq_false (by omega)
  have e4 : ((n : Int) != (n : Int)) = false := by simp
  have hl := hz.len
  have hll := hzl.len
  have HFL : Hid ((fitZ zs).length = n) := by show _ = _; rw [fitZ_len (by omega), hl]
  have HS : Hid (stableZ (fitZ zs) = true) := fitZ_stable (by omega)
  have HA : Hid (fitZ (fitZ zs) = fitZ zs) := fitZ_again (by omega)
  have HFIT : Hid (∀ W, Below w.heap.size w W → Calls Try.prog 12 #[.slice a n cap] W fun e w' => ∃ a', e = .returned (.slice a' n n) ∧ NewRow 2 W.heap.size w' a' (fitZ zs) ∧ Below W.heap.size W w') := fun W hW => cfit_any a n cap zs W (hz.keep hW) hn
  have HXL : Hid ((fromZ ls).length = m) := by show _ = _; rw [fromZ_len (by omega), hll]
  have HXS : Hid (stableZ (fromZ ls) = true) := fromZ_stable (by omega)
  have HXA : Hid (fitZ (fromZ ls) = fromZ ls) := fromZ_again (by omega)
  have hwi := fromZ_within ls
  have HXI : Hid (∀ k, k < m → -131072 ≤ (fromZ ls)[k]?.getD 0 ∧ (fromZ ls)[k]?.getD 0 ≤ 131072) := fun k hk => hwi _ (mem_at (by rw [HXL.out]; exact hk))
  have HFRM : Hid (∀ W, Below w.heap.size w W → Calls Try.prog 10 #[.slice l m c0] W fun e w' => ∃ a', e = .returned (.tuple #[.slice a' m m, .int .i64 0]) ∧ NewRow 2 W.heap.size w' a' (fromZ ls) ∧ Below W.heap.size W w') := fun W hW => cfrom_any l m c0 h ls W (hzl.keep hW) hm
  have hm16 : m ≤ 16 := by omega
  have y1 : Hid True := trivial
  have y2 : Hid True := trivial
  have y3 : Hid True := trivial
  have y4 : Hid True := trivial
  clear hz hl hzl hll hm hwi
  generalize fitZ zs = f at *
  generalize fromZ ls = x at *
  go_enter Try.func5, Try.ntmps5
  go_wp2_with (first
    | (go_at_call 9; refine (awake_any _).mono ?_; rintro e w1 ⟨rfl, hB⟩)
    | (go_at_call 12; clear y1; refine (HFIT.out _ hB).mono ?_; rintro e w2 ⟨a2, rfl, hn2, hb2⟩; have hz2 := Zs.of_new hn2 HFL.out; have hB2 := hB.trans (hb2.mono hB.size))
    | (go_at_call 11; clear y2; refine (held_stable HS.out hn _ _ hz2).mono ?_; rintro e w3 ⟨rfl, hb3⟩; have hz3 := hz2.keep hb3; have hB3 := hB2.trans (hb3.mono hB2.size))
    | (go_at_call 12; clear y3; refine (held_fit HA.out HFL.out hn _ _ hz3).mono ?_; rintro e w4 ⟨a4, rfl, hz4, hb4⟩; have hz5 := hz3.keep hb4; have hB4 := hB3.trans (hb4.mono hB3.size))
    | (go_at_call 15; clear y4; refine (zsame_any _ _ n _ _ f _ hz4 hz5 (by omega)).mono ?_; rintro e _ ⟨rfl, d, rfl⟩; have hB5 := below_drewN hB4 d)
    | (go_at_call 10; refine (HFRM.out _ hB5).mono ?_; rintro e w6 ⟨a6, rfl, hn6, hb6⟩; have hz6 := Zs.of_new hn6 HXL.out; have hB6 := hB5.trans (hb6.mono hB5.size))
    | (go_at_call 11; refine (held_stable HXS.out (by omega) _ _ hz6).mono ?_; rintro e w7 ⟨rfl, hb7⟩; have hz7 := hz6.keep hb7; have hB7 := hB6.trans (hb7.mono hB6.size))
    | (go_at_call 12; refine (held_fit HXA.out HXL.out (by omega) _ _ hz7).mono ?_; rintro e w8 ⟨a8, rfl, hz8, hb8⟩; have hz9 := hz7.keep hb8; have hB8 := hB7.trans (hb8.mono hB7.size))
    | (go_at_call 15; refine (zsame_any _ _ m _ _ x _ hz8 hz9 (by omega)).mono ?_; rintro e w9 ⟨rfl, d9, hw9⟩; have hB9 := below_drewN hB8 d9; have hz10 := hz9.drewN d9; rw [← hw9] at hB9 hz10; clear hw9))
  have HB9 : Hid (Below w.heap.size w w9) := hB9
  have HZX : Hid (∀ W, Below w9.heap.size w9 W → Zs W a6 m x) := fun W hW => hz10.keep hW
  clear hB hz2 hB2 hz3 hB3 hz4 hz5 hB4 hB5 hn6 hz6 hB6 hz7 hB7 hz8 hz9 hB8 hB9 hz10 hb2 hb3 hb4 hb6 hb7 hb8 hn2 HFL HS HA HFIT HXS HXA HFRM
  go_loopw [8, 9, 10, 11] (fun v i _ _ W => ∃ t : Nat, ∃ os : List Int, t ≤ 300 ∧ i = .int .i64 t ∧ Hid (W.ownsRow w9.heap.size 2 1 v t (os.map (Value.int .i64)) ∧ os.length = t ∧ Below w9.heap.size w9 W)) (fun _ i _ _ _ => 300 - (intOf i).toNat)
  case atStart => exact ⟨0, [], Nat.zero_le _, rfl, World.ownsRow_nil _ _ _ _, rfl, Below.refl _ _⟩
  case round =>
    obtain ⟨t, os, ht, rfl, HH⟩ := hrel
    by_cases hlt : t < 300
    · have hlt' : ((t : Int) < 300) = True := eq_true (by omega)
      have hown := HH.out.1
      have hol := HH.out.2.1
      have hbel := HH.out.2.2
      obtain ⟨_, a', c', rfl, hnew⟩ := NewRow.of_owned hown
      have HOS : Hid (Zs wr a' t os) := Zs.of_new hnew hol
      have HXW : Hid (Zs wr a6 m x) := HZX.out _ hbel
      have HOW : Hid (∀ d, (wr.drewN d).ownsRow w9.heap.size 2 1 (.slice a' t c') t (os.map (Value.int .i64)) ∧ Below w9.heap.size w9 (wr.drewN d) ∧ w9.heap.size ≤ (wr.drewN d).heap.size) := fun d => ⟨ownsRow_below hown (below_drewN (Below.refl _ _) d), below_drewN hbel d, (below_drewN hbel d).size⟩
      have HOL : Hid (os.length = t) := hol
      have h0 : ((t : Int) == 0) = true ∧ t = 0 ∨ ((t : Int) == 0) = false ∧ 0 < t := by
        rcases Nat.eq_zero_or_pos t with e | e
        · exact .inl ⟨by simp [e], e⟩
        · exact .inr ⟨by simp; omega, e⟩
      clear hown hol hbel hnew HH HZX
      rcases h0 with ⟨e0, ht0⟩ | ⟨e0, ht0⟩
      all_goals
        have HT0 : Hid _ := ht0
        clear ht0
        go_wp2
        go_loopw [10, 11] (fun v i W => (∃ d, W = wr.drewN d) ∧ ∃ (k : Nat) (q : Int), k ≤ m ∧ k ≤ t ∧ i = .int .i64 k ∧ v = .int .i64 q ∧ Hid (-(68719476736 * (k : Int)) - 1048576 ≤ q ∧ q ≤ 68719476736 * (k : Int) + 1048576 ∧ (0 < t → -(68719476736 * (k : Int)) ≤ q ∧ q ≤ 68719476736 * (k : Int)))) (fun _ i _ => m - (intOf i).toNat)
        case atStart =>
          have := HT0.out
          first
            | exact ⟨⟨0, rfl⟩, 0, 1048576, Nat.zero_le _, Nat.zero_le _, rfl, rfl, by omega, by omega, fun h => absurd h (by omega)⟩
            | exact ⟨⟨0, rfl⟩, 0, 0, Nat.zero_le _, Nat.zero_le _, rfl, rfl, by omega, by omega, fun _ => by omega⟩
        case round =>
          obtain ⟨⟨d, rfl⟩, k, q, hkm, hkt, rfl, rfl, HQ⟩ := hrel
          by_cases hc : k < m ∧ k < t
          · have c1 : ((k : Int) < (m : Int)) = True := eq_true (by omega)
            have c2 : ((k : Int) < (t : Int)) = True := eq_true (by omega)
            obtain ⟨xb, xo, rfl, _, hcx⟩ := HXW.out.at_ (by omega)
            obtain ⟨ob, oo, rfl, _, hco⟩ := HOS.out.at_ (by omega)
            obtain ⟨j, hj⟩ : ∃ j : Nat, j = t - 1 - k := ⟨_, rfl⟩
            have hx := hcx k hc.1
            have ho := hco j (by omega)
            have hq := HQ.out
            have hxi := HXI.out k hc.1
            generalize x[k]?.getD 0 = xv at *
            generalize os[j]?.getD 0 = ov at *
            have hp := mul12_in (y := ov) hxi
            generalize hp0 : mulI xv ov 12 = p at *
            have HM : Hid (∀ W, Calls Try.prog 21 #[.int .i64 xv, .int .i64 ov, .int .i64 12] W fun e w' => e = .returned (.int .i64 p) ∧ w' = W) := fun W => by rw [← hp0]; exact rmul_any _ _ _ _
            have HB1 : Hid (-(68719476736 * ((k + 1 : Nat) : Int)) - 1048576 ≤ q + p ∧ q + p ≤ 68719476736 * ((k + 1 : Nat) : Int) + 1048576 ∧ (0 < t → -(68719476736 * ((k + 1 : Nat) : Int)) ≤ q + p ∧ q + p ≤ 68719476736 * ((k + 1 : Nat) : Int))) := by
              refine ⟨by omega, by omega, fun h => ?_⟩
              have := hq.2.2 h
              omega
            have hw1 : IntKind.i64.wrap ((t : Int) - 1) = (t : Int) - 1 := by rw [IntKind.wrap_i64]; omega
            have hw2 : IntKind.i64.wrap ((t : Int) - 1 - (k : Int)) = (j : Int) := by rw [IntKind.wrap_i64]; omega
            have hw3 : IntKind.i64.wrap (q + p) = q + p := by rw [IntKind.wrap_i64]; omega
            have hk0 : (0 : Int) ≤ (k : Int) := by omega
            have hj0 : (0 : Int) ≤ (j : Int) := by omega
            have hj1 : (j : Int) < (t : Int) := by omega
            have HK : Hid (k + 1 ≤ m ∧ k + 1 ≤ t ∧ m - (k + 1) < m - k) := by show _ ∧ _; omega
            clear hcx hco hq hxi hp hp0 hj hc HQ HXI HXW HOS
            go_wp2
            go_quiet (first | (go_at_call 21; exact (HM.out _).mono (fun _ _ ⟨he, hw⟩ => ⟨he, _, hw⟩)))
            all_goals
              go_wp2
              go_roundw
              case rel => exact ⟨⟨_, rfl⟩, k + 1, _, HK.out.1, HK.out.2.1, by go_num, rfl, HB1.out⟩
              case measure => simp [intOf]; exact HK.out.2.2
          · have hq := HQ.out
            have ht0 := HT0.out
            have hq40 : -1099511627776 ≤ q ∧ q ≤ 1099511627776 := by
              rcases Nat.eq_zero_or_pos t with e | e
              · have : k = 0 := by omega
                subst this
                omega
              · have := hq.2.2 e
                omega
            have g1 : ((1099511627776 : Int) < q) = False := eq_false (by omega)
            have g2 : (q < (-1099511627776 : Int)) = False := eq_false (by omega)
            have hcc : ((k : Int) < (m : Int)) = False ∨ ((k : Int) < (m : Int)) = True ∧ ((k : Int) < (t : Int)) = False := by
              by_cases h1 : k < m
              · exact .inr ⟨eq_true (by omega), eq_false (by omega)⟩
              · exact .inl (eq_false (by omega))
            obtain ⟨hown, hbel, hsz⟩ := HOW.out d
            have HOL2 : Hid ((os ++ [q]).length = t + 1) := by show _ = _; rw [List.length_append, HOL.out]; rfl
            have ht3 : t ≤ 1000000 := by omega
            have HMM : Hid (299 - t < 300 - t) := by show _ < _; omega
            clear hq hq40 hc HQ HXI HXW HOS ht0
            rcases hcc with c1 | ⟨c1, c2⟩
            all_goals
              go_wp2_with (at_builtin; refine wpList_append_one 23 2 Try.underlying23 info_int64 w9.heap.size _ t os _ hown ht3 hsz rfl _ _ rfl rfl rfl ?_; intro v' w10 hown2 hb2; have hb3 := hbel.trans hb2)
              go_roundw
              case rel => exact ⟨t + 1, os ++ [q], by omega, by go_num, hown2, HOL2.out, hb3⟩
              case measure => simp [intOf]; exact HMM.out
    · have hlt' : ((t : Int) < 300) = False := eq_false (by omega)
      have HBE : Hid (Below w.heap.size w wr) := HB9.out.trans (HH.out.2.2.mono HB9.out.size)
      clear HH HXI HZX
      go_wp2
      go_ret
      exact ⟨rfl, HBE.out⟩

theorem lpcDies.walk (a0 : Option Addr) (l0 c0 : Nat) (z0 : List Int) (a1 : Option Addr) (l1 c1 : Nat) (z1 : List Int) (w : World) (h0 : IsRow .i64 w a0 l0 c0 z0) (h1 : IsRow .i64 w a1 l1 c1 z1) :
    Calls Try.prog 5 #[.slice a0 l0 c0, .slice a1 l1 c1] w fun e w' => e = .returned (.bool true) ∧ Below w.heap.size w w' := by
  obtain ⟨hz0, hm0, _⟩ := Zs.of_isRow h0
  obtain ⟨hz1, hm1, _⟩ := Zs.of_isRow h1
  rcases Nat.lt_or_ge 32 l1 with h | h
  · exact dies_far a0 l0 c0 a1 l1 c1 w h (by unfold maxLen at hm1; omega)
  · by_cases h10 : l0 = 10
    · exact dies_go a0 l0 c0 5 _ a1 l1 c1 _ w hz0 hz1 h (.inl ⟨h10, rfl⟩)
    · by_cases h16 : l0 = 16
      · exact dies_go a0 l0 c0 8 _ a1 l1 c1 _ w hz0 hz1 h (.inr ⟨h16, rfl⟩)
      · exact dies_none a0 l0 c0 a1 l1 c1 _ w hz1 h h10 h16

end Go.Proofs.Ytefecpidccpimaa
