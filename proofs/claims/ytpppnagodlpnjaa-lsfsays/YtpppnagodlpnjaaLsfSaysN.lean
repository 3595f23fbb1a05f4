/- The law that all is as the document says, where the index is not good. -/
import Derived.Test.YtpppnagodlpnjaaLsfSaysA
namespace Go.Proofs.Ytpppnagodlpnjaa
open Go.RowKit
set_option linter.unusedVariables false

set_option maxRecDepth 100000 in
set_option maxHeartbeats 8000000 in
theorem says_nbs (order one : Int) (a0 : Option Addr) (n0 c0 : Nat) (zs : List Int) (a1 : Option Addr) (n1 c1 : Nat) (xs : List Int) (a2 : Option Addr) (n2 c2 : Nat) (ys : List Int) (v : Int) (w : World) (hz0 : Zs w a0 n0 zs) (hz1 : Zs w a1 n1 xs) (hz2 : Zs w a2 n2 ys) (h0 : n0 ≤ 100) (h1 : n1 ≤ 100) (h2 : n2 ≤ 100)
    (hg : ¬ GoodX order one zs) (hbt : n1 = n2 ∧ n1 ≤ 64 ∧ 0 ≤ v ∧ v ≤ 4) (hs : (order = 10 ∨ order = 16) ∧ (n1 : Int) = order) :
    Calls Try.prog 4 #[.int .i64 order, .agg #[.int .i64 one, .slice a0 n0 c0], .slice a1 n1 c1, .slice a2 n2 c2, .int .i64 v] w fun e w' => e = .returned (.bool true) ∧ Below w.heap.size w w' := by
  have HM0 : n0 ≤ maxLen := by unfold maxLen; omega
  have HGI : Hid (From w 15 #[.int .i64 order, .int .i64 one, .slice a0 n0 c0] fun W e w' => e = .returned (.bool false) ∧ w' = W) := fun W hb => by
    refine (rgi_any order one a0 n0 c0 zs W (hz0.keep hb) HM0).mono ?_
    rintro e w' ⟨bb, rfl, hbb, rfl⟩
    refine ⟨?_, rfl⟩
    cases bb
    · rfl
    · exact absurd (hbb.1 rfl) hg
  have HGd : Hid (From w 13 #[.int .i64 order, .agg #[.int .i64 one, .slice a0 n0 c0]] fun W e w' => e = .returned (.bool false) ∧ Below W.heap.size W w') := fun W hb => by
    refine (igood_any order one a0 n0 c0 zs W (hz0.keep hb) HM0).mono ?_
    rintro e w' ⟨bb, rfl, hbb, hb2⟩
    refine ⟨?_, hb2⟩
    cases bb
    · rfl
    · exact absurd (hbb.1 rfl) hg
  have HDc : Hid (∀ W r c, Zs W r n0 zs → Calls Try.prog 10 #[.int .i64 order, .agg #[.int .i64 one, .slice r n0 c]] W fun e w' => e = .returned (.tuple #[.slice none 0 0, .int .i64 1]) ∧ Below W.heap.size W w') := fun W r c hz => decode_bad order one r n0 c zs W hz HM0 hg
  have HSt : Hid (∃ nS cS cR, ∃ S : List Int, nS ≤ 64 ∧ (∀ W r c, Zs W r n1 xs → Calls Try.prog 14 #[.slice r n1 c] W fun e w' => ∃ a', e = .returned (.slice a' nS cS) ∧ Zs w' a' nS S ∧ Below W.heap.size W w') ∧ (∀ W r c, Zs W r n1 xs → Calls Try.prog 18 #[.slice r n1 c] W fun e w' => ∃ a' c', e = .returned (.slice a' nS c') ∧ Zs w' a' nS S ∧ Below W.heap.size W w') ∧ cR = 0) := by
    by_cases h64 : n1 ≤ 64
    · have hl : (steadyZ xs).length = n1 := by rw [steadyZ_len, hz1.len]
      refine ⟨n1, n1, 0, steadyZ xs, h64, fun W r c hz => ?_, fun W r c hz => ?_, rfl⟩
      · refine (steady_any r n1 c xs W hz h64).mono ?_
        rintro e w' ⟨a', rfl, hn, hb⟩
        exact ⟨a', rfl, Zs.of_new hn hl, hb⟩
      · refine (rsteady_any r n1 c xs W hz h64).mono ?_
        rintro e w' ⟨a', c', rfl, hn, hb⟩
        exact ⟨a', c', rfl, Zs.of_new hn hl, hb⟩
    · refine ⟨0, 0, 0, [], by decide, fun W r c hz => ?_, fun W r c hz => ?_, rfl⟩
      · refine (steady_far r n1 c W (by omega) (by omega)).mono ?_
        rintro e w' ⟨rfl, rfl⟩
        exact ⟨none, rfl, Zs.nil _ _, Below.refl _ _⟩
      · refine (rsteady_far r n1 c W (by omega) (by omega)).mono ?_
        rintro e w' ⟨rfl, rfl⟩
        exact ⟨none, 0, rfl, Zs.nil _ _, Below.refl _ _⟩
  obtain ⟨nS, cS, _, S, hnS, hst1, hst2, _⟩ := HSt.out
  have HS1 : Hid (∀ W r c, Zs W r n1 xs → Calls Try.prog 14 #[.slice r n1 c] W fun e w' => ∃ a', e = .returned (.slice a' nS cS) ∧ Zs w' a' nS S ∧ Below W.heap.size W w') := hst1
  have HS2 : Hid (∀ W r c, Zs W r n1 xs → Calls Try.prog 18 #[.slice r n1 c] W fun e w' => ∃ a' c', e = .returned (.slice a' nS c') ∧ Zs w' a' nS S ∧ Below W.heap.size W w') := hst2
  clear HSt hst1 hst2
  obtain ⟨hnn, hb64, hv0, hv4⟩ := hbt
  subst hnn
  have HBt : Hid (From w 11 #[.slice a1 n1 c1, .slice a2 n1 c2, .int .i64 v] fun W e w' => ∃ a', e = .returned (.tuple #[.slice a' n1 n1, .int .i64 0]) ∧ Zs w' a' n1 (betweenL xs ys v n1) ∧ Below W.heap.size W w') := fun W hb => by
    refine (between_good a1 a2 n1 c1 c2 xs ys v W (hz1.keep hb) (hz2.keep hb) hb64 hv0 hv4).mono ?_
    rintro e w' ⟨a', rfl, hn, hb⟩
    exact ⟨a', rfl, Zs.of_new hn (betweenL_len _ _ _ _), hb⟩
  have HRB : Hid (From w 19 #[.slice a1 n1 c1, .slice a2 n1 c2, .int .i64 v] fun W e w' => ∃ a' c', e = .returned (.slice a' n1 c') ∧ Zs w' a' n1 (betweenL xs ys v n1) ∧ Below W.heap.size W w') := fun W hb => by
    refine (rbetween_any a1 a2 n1 c1 c2 xs ys v W (hz1.keep hb) (hz2.keep hb) hb64 hv0 hv4).mono ?_
    rintro e w' ⟨a', c', rfl, hn, hb⟩
    exact ⟨a', c', rfl, Zs.of_new hn (betweenL_len _ _ _ _), hb⟩
  generalize betweenL xs ys v n1 = L at *
  obtain ⟨hs16, hso⟩ := hs
  have h16 : n1 = 10 ∨ n1 = 16 := by omega
  have hT : (twosZ (n1 : Int) xs).length = n1 := twosZ_len _ _
  have HSe : Hid (From w 12 #[.int .i64 order, .slice a1 n1 c1] fun W e w' => ∃ a', e = .returned (.tuple #[.agg #[.int .i64 (oneZ n1 xs : Nat), .slice a' n1 n1], .int .i64 0]) ∧ Zs w' a' n1 (twosZ n1 xs) ∧ Below W.heap.size W w') := fun W hb => by
    rw [← hso]
    refine (search_good xs a1 n1 c1 W h16 (hz1.keep hb)).mono ?_
    rintro e w' ⟨a', rfl, hn, hb⟩
    exact ⟨a', rfl, Zs.of_new hn hT, hb⟩
  have HRS : Hid (From w 20 #[.int .i64 order, .slice a1 n1 c1] fun W e w' => ∃ a' c', e = .returned (.tuple #[.int .i64 (oneZ n1 xs : Nat), .slice a' n1 c']) ∧ Zs w' a' n1 (twosZ n1 xs) ∧ Below W.heap.size W w') := fun W hb => by
    rw [← hso]
    refine (rsearch_any xs a1 n1 c1 W h16 (hz1.keep hb)).mono ?_
    rintro e w' ⟨a', c', rfl, hn, hb⟩
    exact ⟨a', c', rfl, Zs.of_new hn hT, hb⟩
  have h1lt := oneZ_lt n1 xs
  have q3 : ((n1 : Int) != order) = false := by rw [hso]; exact bne_self_eq_false _
  have hn16 : 10 ≤ n1 ∧ n1 ≤ 16 := by omega
  clear hT h16 hso
  generalize oneZ (n1 : Int) xs = o at *
  generalize twosZ (n1 : Int) xs = T at *
  have HL1 : Hid (xs.length = n1) := hz1.len
  have yA : Hid True := trivial
  have yB : Hid True := trivial
  have HZ0 : Hid (∀ W, Below w.heap.size w W → Zs W a0 n0 zs) := fun W hb => hz0.keep hb
  have HZ1 : Hid (∀ W, Below w.heap.size w W → Zs W a1 n1 xs) := fun W hb => hz1.keep hb
  clear hz0 hz1 hz2 HM0
  have hi := Idx.new w (.int .i64 one) (.slice a0 n0 c0)
  have hB := (Below.refl w.heap.size w).alloc (Nat.le_refl _) (.cells #[.int .i64 one, .slice a0 n0 c0] 29)
  rcases hs16 with h | h
  case' inl =>
    have q1 : (order != 10) = false := by rw [h]; rfl
  case' inr =>
    have q1 : (order != 10) = true := by rw [h]; rfl
    have q2 : (order != 16) = false := by rw [h]; rfl
  all_goals
    clear h
    go_enter Try.func4, Try.ntmps4
    go_wp2_with (first
      | (go_at_call 9; refine (awake_any _).mono ?_; rintro e w1 ⟨rfl, hb1⟩; replace hi := hi.keep hb1; obtain ⟨x0, x1⟩ := hi.cells; replace hB := hB.trans (hb1.mono hB.size); clear hb1)
      | (go_at_call 15; refine (HGI.out _ hB).mono ?_; rintro e w2 ⟨rfl, hw2⟩; rw [← hw2] at hB hi x0 x1; clear hw2))
    replace hi := hi.drew
    replace hB := hB.drew
    obtain ⟨hS0, hS1⟩ := hi.cells
    go_region_held3 (fun W => W.cell? ⟨w.heap.size, 0, none⟩ = some (.int .i64 one) ∧ W.cell? ⟨w.heap.size, 1, none⟩ = some (.slice a0 n0 c0)) (first | (exact ⟨by assumption, by assumption⟩) | go_keep) (first
      | ((refine step_copy_zs rfl (.tmp 47) (.tmp 49) rfl a0 n0 c0 zs (HZ0.out _ hB) (by omega) (by simp [Act.eval]) (by simp [Act.eval]) ?_; intro r9 c9 w6 hz6 hb6; replace hi := hi.keep hb6; obtain ⟨hS0, hS1⟩ := hi.cells; replace hB := hB.trans (hb6.mono hB.size)))
      | (go_at_call 10; go_loud (refine (HDc.out _ _ _ hz6).mono ?_; rintro e w7 ⟨rfl, hb7⟩; replace hi := hi.keep hb7; obtain ⟨hS0, hS1⟩ := hi.cells; replace hB := hB.trans (hb7.mono hB.size); clear hb7)))
    go_wp2_with (first
      | (go_at_call 13; go_loud (refine (HGd.out _ hB).mono ?_; rintro e w8 ⟨rfl, hb8⟩; replace hi := hi.keep hb8; obtain ⟨x0, x1⟩ := hi.cells; replace hB := hB.trans (hb8.mono hB.size); clear hb8))
      | (at_builtin; go_loud (refine wpList_append_copy 23 2 Try.underlying23 info_int64 a1 n1 c1 xs (HZ1.out _ hB).len (by omega) (fun h => zs_adds (HZ1.out _ hB) h) rfl _ _ rfl rfl rfl ?_; intro r10 c10 w10 hn10 hb10; have hz10 := Zs.of_new hn10 HL1.out; replace hB := hB.trans (hb10.mono hB.size); clear hb10 hn10))
      | (go_at_call 14; go_loud (refine (HS1.out _ _ _ hz10).mono ?_; rintro e w11 ⟨a11, rfl, hz11, hb11⟩; replace hB := hB.trans (hb11.mono hB.size); clear hb11 hz10))
      | (go_at_call 18; go_loud (refine (HS2.out _ _ _ (HZ1.out _ hB)).mono ?_; rintro e w12 ⟨a12, c12, rfl, hz12, hb12⟩; replace hz11 := hz11.keep hb12; replace hB := hB.trans (hb12.mono hB.size); clear hb12))
      | (go_at_call 16; clear yB; go_loud (refine (zsame_any _ _ nS _ _ S _ hz11 hz12 (by omega)).mono ?_; rintro e wB ⟨rfl, kB, rfl⟩; replace hB := below_drewN hB kB; clear hz11 hz12))
      | (go_at_call 11; go_loud (refine (HBt.out _ hB).mono ?_; rintro e w13 ⟨a13, rfl, hz13, hb13⟩; replace hB := hB.trans (hb13.mono hB.size); clear hb13))
      | (go_at_call 19; go_loud (refine (HRB.out _ hB).mono ?_; rintro e w14 ⟨a14, c14, rfl, hz14, hb14⟩; replace hz13 := hz13.keep hb14; replace hB := hB.trans (hb14.mono hB.size); clear hb14))
      | (go_at_call 16; go_loud (refine (zsame_any _ _ n1 _ _ L _ hz13 hz14 (by omega)).mono ?_; rintro e wC ⟨rfl, kC, rfl⟩; replace hB := below_drewN hB kC; clear hz13 hz14))
      | (go_at_call 12; go_loud (refine (HSe.out _ hB).mono ?_; rintro e w15 ⟨a15, rfl, hz15, hb15⟩; have hix := Idx.new w15 (.int .i64 (o : Int)) (.slice a15 n1 n1); replace hz15 := hz15.alloc (.cells #[.int .i64 (o : Int), .slice a15 n1 n1] 29); have hB5 := hB.trans (hb15.mono hB.size); replace hB := hB5.alloc hB5.size (.cells #[.int .i64 (o : Int), .slice a15 n1 n1] 29); clear hb15 hB5))
      | (go_at_call 20; go_loud (refine (HRS.out _ hB).mono ?_; rintro e w16 ⟨a16, c16, rfl, hz16, hb16⟩; replace hix := hix.keep hb16; obtain ⟨u0, u1⟩ := hix.cells; replace hz15 := hz15.keep hb16; replace hB := hB.trans (hb16.mono hB.size); clear hb16)))
    have H1 : Hid (∃ b off, a15 = some ⟨b, off, none⟩ ∧ ∀ i, i < n1 → w16.cell? ⟨b, off + i, none⟩ = some (.int .i64 (T[i]?.getD 0))) := by obtain ⟨b, off, e, _, hc⟩ := hz15.at_ (by omega); exact ⟨b, off, e, hc⟩
    have H2 : Hid (∃ b off, a16 = some ⟨b, off, none⟩ ∧ ∀ i, i < n1 → w16.cell? ⟨b, off + i, none⟩ = some (.int .i64 (T[i]?.getD 0))) := by obtain ⟨b, off, e, _, hc⟩ := hz16.at_ (by omega); exact ⟨b, off, e, hc⟩
    have HBW : Hid (Below w.heap.size w w16) := hB
    obtain ⟨b1, o1, rfl, g1⟩ := H1.out
    obtain ⟨b2, o2, rfl, g2⟩ := H2.out
    have G1 : Hid (∀ i, i < n1 → w16.cell? ⟨b1, o1 + i, none⟩ = some (.int .i64 (T[i]?.getD 0))) := g1
    have G2 : Hid (∀ i, i < n1 → w16.cell? ⟨b2, o2 + i, none⟩ = some (.int .i64 (T[i]?.getD 0))) := g2
    clear g1 g2 H1 H2 hz15 hz16 hB hi hix u0 HGI HGd HDc HS1 HS2 HBt HSe HRS HZ0 HZ1
    go_loopw [20] (fun i W => (∃ d, W = w16.drewN d) ∧ ∃ k : Nat, k ≤ n1 ∧ i = .int .i64 k) (fun i _ => n1 - (intOf i).toNat)
    case atStart => exact ⟨⟨0, rfl⟩, 0, Nat.zero_le _, rfl⟩
    case round =>
      obtain ⟨⟨d, rfl⟩, k, hk, rfl⟩ := hrel
      by_cases hlt : k < n1
      · have hc1 := G1.out k hlt
        have hc2 := G2.out k hlt
        clear G1 G2
        generalize T[k]?.getD 0 = x at hc1 hc2
        go_wp2
        go_quiet (fail)
        all_goals
          go_wp2
          go_roundw
          case rel => exact ⟨⟨_, rfl⟩, k + 1, by omega, by go_num⟩
          case measure => simp [intOf]; omega
      · go_wp2
        go_ret
        exact ⟨rfl, below_drewN HBW.out d⟩

set_option maxRecDepth 100000 in
set_option maxHeartbeats 8000000 in
theorem says_nbn (order one : Int) (a0 : Option Addr) (n0 c0 : Nat) (zs : List Int) (a1 : Option Addr) (n1 c1 : Nat) (xs : List Int) (a2 : Option Addr) (n2 c2 : Nat) (ys : List Int) (v : Int) (w : World) (hz0 : Zs w a0 n0 zs) (hz1 : Zs w a1 n1 xs) (hz2 : Zs w a2 n2 ys) (h0 : n0 ≤ 100) (h1 : n1 ≤ 100) (h2 : n2 ≤ 100)
    (hg : ¬ GoodX order one zs) (hbt : n1 = n2 ∧ n1 ≤ 64 ∧ 0 ≤ v ∧ v ≤ 4) (hs : ¬ ((order = 10 ∨ order = 16) ∧ (n1 : Int) = order)) :
    Calls Try.prog 4 #[.int .i64 order, .agg #[.int .i64 one, .slice a0 n0 c0], .slice a1 n1 c1, .slice a2 n2 c2, .int .i64 v] w fun e w' => e = .returned (.bool true) ∧ Below w.heap.size w w' := by
  have HM0 : n0 ≤ maxLen := by unfold maxLen; omega
  have HGI : Hid (From w 15 #[.int .i64 order, .int .i64 one, .slice a0 n0 c0] fun W e w' => e = .returned (.bool false) ∧ w' = W) := fun W hb => by
    refine (rgi_any order one a0 n0 c0 zs W (hz0.keep hb) HM0).mono ?_
    rintro e w' ⟨bb, rfl, hbb, rfl⟩
    refine ⟨?_, rfl⟩
    cases bb
    · rfl
    · exact absurd (hbb.1 rfl) hg
  have HGd : Hid (From w 13 #[.int .i64 order, .agg #[.int .i64 one, .slice a0 n0 c0]] fun W e w' => e = .returned (.bool false) ∧ Below W.heap.size W w') := fun W hb => by
    refine (igood_any order one a0 n0 c0 zs W (hz0.keep hb) HM0).mono ?_
    rintro e w' ⟨bb, rfl, hbb, hb2⟩
    refine ⟨?_, hb2⟩
    cases bb
    · rfl
    · exact absurd (hbb.1 rfl) hg
  have HDc : Hid (∀ W r c, Zs W r n0 zs → Calls Try.prog 10 #[.int .i64 order, .agg #[.int .i64 one, .slice r n0 c]] W fun e w' => e = .returned (.tuple #[.slice none 0 0, .int .i64 1]) ∧ Below W.heap.size W w') := fun W r c hz => decode_bad order one r n0 c zs W hz HM0 hg
  have HSt : Hid (∃ nS cS cR, ∃ S : List Int, nS ≤ 64 ∧ (∀ W r c, Zs W r n1 xs → Calls Try.prog 14 #[.slice r n1 c] W fun e w' => ∃ a', e = .returned (.slice a' nS cS) ∧ Zs w' a' nS S ∧ Below W.heap.size W w') ∧ (∀ W r c, Zs W r n1 xs → Calls Try.prog 18 #[.slice r n1 c] W fun e w' => ∃ a' c', e = .returned (.slice a' nS c') ∧ Zs w' a' nS S ∧ Below W.heap.size W w') ∧ cR = 0) := by
    by_cases h64 : n1 ≤ 64
    · have hl : (steadyZ xs).length = n1 := by rw [steadyZ_len, hz1.len]
      refine ⟨n1, n1, 0, steadyZ xs, h64, fun W r c hz => ?_, fun W r c hz => ?_, rfl⟩
      · refine (steady_any r n1 c xs W hz h64).mono ?_
        rintro e w' ⟨a', rfl, hn, hb⟩
        exact ⟨a', rfl, Zs.of_new hn hl, hb⟩
      · refine (rsteady_any r n1 c xs W hz h64).mono ?_
        rintro e w' ⟨a', c', rfl, hn, hb⟩
        exact ⟨a', c', rfl, Zs.of_new hn hl, hb⟩
    · refine ⟨0, 0, 0, [], by decide, fun W r c hz => ?_, fun W r c hz => ?_, rfl⟩
      · refine (steady_far r n1 c W (by omega) (by omega)).mono ?_
        rintro e w' ⟨rfl, rfl⟩
        exact ⟨none, rfl, Zs.nil _ _, Below.refl _ _⟩
      · refine (rsteady_far r n1 c W (by omega) (by omega)).mono ?_
        rintro e w' ⟨rfl, rfl⟩
        exact ⟨none, 0, rfl, Zs.nil _ _, Below.refl _ _⟩
  obtain ⟨nS, cS, _, S, hnS, hst1, hst2, _⟩ := HSt.out
  have HS1 : Hid (∀ W r c, Zs W r n1 xs → Calls Try.prog 14 #[.slice r n1 c] W fun e w' => ∃ a', e = .returned (.slice a' nS cS) ∧ Zs w' a' nS S ∧ Below W.heap.size W w') := hst1
  have HS2 : Hid (∀ W r c, Zs W r n1 xs → Calls Try.prog 18 #[.slice r n1 c] W fun e w' => ∃ a' c', e = .returned (.slice a' nS c') ∧ Zs w' a' nS S ∧ Below W.heap.size W w') := hst2
  clear HSt hst1 hst2
  obtain ⟨hnn, hb64, hv0, hv4⟩ := hbt
  subst hnn
  have HBt : Hid (From w 11 #[.slice a1 n1 c1, .slice a2 n1 c2, .int .i64 v] fun W e w' => ∃ a', e = .returned (.tuple #[.slice a' n1 n1, .int .i64 0]) ∧ Zs w' a' n1 (betweenL xs ys v n1) ∧ Below W.heap.size W w') := fun W hb => by
    refine (between_good a1 a2 n1 c1 c2 xs ys v W (hz1.keep hb) (hz2.keep hb) hb64 hv0 hv4).mono ?_
    rintro e w' ⟨a', rfl, hn, hb⟩
    exact ⟨a', rfl, Zs.of_new hn (betweenL_len _ _ _ _), hb⟩
  have HRB : Hid (From w 19 #[.slice a1 n1 c1, .slice a2 n1 c2, .int .i64 v] fun W e w' => ∃ a' c', e = .returned (.slice a' n1 c') ∧ Zs w' a' n1 (betweenL xs ys v n1) ∧ Below W.heap.size W w') := fun W hb => by
    refine (rbetween_any a1 a2 n1 c1 c2 xs ys v W (hz1.keep hb) (hz2.keep hb) hb64 hv0 hv4).mono ?_
    rintro e w' ⟨a', c', rfl, hn, hb⟩
    exact ⟨a', c', rfl, Zs.of_new hn (betweenL_len _ _ _ _), hb⟩
  generalize betweenL xs ys v n1 = L at *
  have HSe : Hid (From w 12 #[.int .i64 order, .slice a1 n1 c1] fun W e w' => e = .returned (.tuple #[.agg #[.int .i64 0, .slice none 0 0], .int .i64 1]) ∧ Below W.heap.size W w') := fun W hb => search_bad order a1 n1 c1 W (by unfold maxLen; omega) hs
  have HL1 : Hid (xs.length = n1) := hz1.len
  have yA : Hid True := trivial
  have yB : Hid True := trivial
  have HZ0 : Hid (∀ W, Below w.heap.size w W → Zs W a0 n0 zs) := fun W hb => hz0.keep hb
  have HZ1 : Hid (∀ W, Below w.heap.size w W → Zs W a1 n1 xs) := fun W hb => hz1.keep hb
  clear hz0 hz1 hz2 HM0
  have hi := Idx.new w (.int .i64 one) (.slice a0 n0 c0)
  have hB := (Below.refl w.heap.size w).alloc (Nat.le_refl _) (.cells #[.int .i64 one, .slice a0 n0 c0] 29)
  go_enter Try.func4, Try.ntmps4
  go_wp2_with (first
    | (go_at_call 9; refine (awake_any _).mono ?_; rintro e w1 ⟨rfl, hb1⟩; replace hi := hi.keep hb1; obtain ⟨x0, x1⟩ := hi.cells; replace hB := hB.trans (hb1.mono hB.size); clear hb1)
    | (go_at_call 15; refine (HGI.out _ hB).mono ?_; rintro e w2 ⟨rfl, hw2⟩; rw [← hw2] at hB hi x0 x1; clear hw2))
  replace hi := hi.drew
  replace hB := hB.drew
  obtain ⟨hS0, hS1⟩ := hi.cells
  go_region_held3 (fun W => W.cell? ⟨w.heap.size, 0, none⟩ = some (.int .i64 one) ∧ W.cell? ⟨w.heap.size, 1, none⟩ = some (.slice a0 n0 c0)) (first | (exact ⟨by assumption, by assumption⟩) | go_keep) (first
    | ((refine step_copy_zs rfl (.tmp 47) (.tmp 49) rfl a0 n0 c0 zs (HZ0.out _ hB) (by omega) (by simp [Act.eval]) (by simp [Act.eval]) ?_; intro r9 c9 w6 hz6 hb6; replace hi := hi.keep hb6; obtain ⟨hS0, hS1⟩ := hi.cells; replace hB := hB.trans (hb6.mono hB.size)))
    | (go_at_call 10; go_loud (refine (HDc.out _ _ _ hz6).mono ?_; rintro e w7 ⟨rfl, hb7⟩; replace hi := hi.keep hb7; obtain ⟨hS0, hS1⟩ := hi.cells; replace hB := hB.trans (hb7.mono hB.size); clear hb7)))
  go_wp2_with (first
    | (go_at_call 13; go_loud (refine (HGd.out _ hB).mono ?_; rintro e w8 ⟨rfl, hb8⟩; replace hi := hi.keep hb8; obtain ⟨x0, x1⟩ := hi.cells; replace hB := hB.trans (hb8.mono hB.size); clear hb8))
    | (at_builtin; go_loud (refine wpList_append_copy 23 2 Try.underlying23 info_int64 a1 n1 c1 xs (HZ1.out _ hB).len (by omega) (fun h => zs_adds (HZ1.out _ hB) h) rfl _ _ rfl rfl rfl ?_; intro r10 c10 w10 hn10 hb10; have hz10 := Zs.of_new hn10 HL1.out; replace hB := hB.trans (hb10.mono hB.size); clear hb10 hn10))
    | (go_at_call 14; go_loud (refine (HS1.out _ _ _ hz10).mono ?_; rintro e w11 ⟨a11, rfl, hz11, hb11⟩; replace hB := hB.trans (hb11.mono hB.size); clear hb11 hz10))
    | (go_at_call 18; go_loud (refine (HS2.out _ _ _ (HZ1.out _ hB)).mono ?_; rintro e w12 ⟨a12, c12, rfl, hz12, hb12⟩; replace hz11 := hz11.keep hb12; replace hB := hB.trans (hb12.mono hB.size); clear hb12))
    | (go_at_call 16; clear yB; go_loud (refine (zsame_any _ _ nS _ _ S _ hz11 hz12 (by omega)).mono ?_; rintro e wB ⟨rfl, kB, rfl⟩; replace hB := below_drewN hB kB; clear hz11 hz12))
    | (go_at_call 11; go_loud (refine (HBt.out _ hB).mono ?_; rintro e w13 ⟨a13, rfl, hz13, hb13⟩; replace hB := hB.trans (hb13.mono hB.size); clear hb13))
    | (go_at_call 19; go_loud (refine (HRB.out _ hB).mono ?_; rintro e w14 ⟨a14, c14, rfl, hz14, hb14⟩; replace hz13 := hz13.keep hb14; replace hB := hB.trans (hb14.mono hB.size); clear hb14))
    | (go_at_call 16; go_loud (refine (zsame_any _ _ n1 _ _ L _ hz13 hz14 (by omega)).mono ?_; rintro e wC ⟨rfl, kC, rfl⟩; replace hB := below_drewN hB kC; clear hz13 hz14))
    | (go_at_call 12; go_loud (refine (HSe.out _ hB).mono ?_; rintro e w15 ⟨rfl, hb15⟩; have hB5 := hB.trans (hb15.mono hB.size); replace hB := hB5.alloc hB5.size (.cells #[.int .i64 0, .slice none 0 0] 29); clear hb15 hB5)))
  all_goals first
    | (exfalso; omega)
    | (go_ret
       exact ⟨rfl, hB⟩)

set_option maxRecDepth 100000 in
set_option maxHeartbeats 8000000 in
theorem says_nns (order one : Int) (a0 : Option Addr) (n0 c0 : Nat) (zs : List Int) (a1 : Option Addr) (n1 c1 : Nat) (xs : List Int) (a2 : Option Addr) (n2 c2 : Nat) (ys : List Int) (v : Int) (w : World) (hz0 : Zs w a0 n0 zs) (hz1 : Zs w a1 n1 xs) (hz2 : Zs w a2 n2 ys) (h0 : n0 ≤ 100) (h1 : n1 ≤ 100) (h2 : n2 ≤ 100)
    (hg : ¬ GoodX order one zs) (hbt : ¬ (n1 = n2 ∧ n1 ≤ 64 ∧ 0 ≤ v ∧ v ≤ 4)) (hs : (order = 10 ∨ order = 16) ∧ (n1 : Int) = order) :
    Calls Try.prog 4 #[.int .i64 order, .agg #[.int .i64 one, .slice a0 n0 c0], .slice a1 n1 c1, .slice a2 n2 c2, .int .i64 v] w fun e w' => e = .returned (.bool true) ∧ Below w.heap.size w w' := by
  have HM0 : n0 ≤ maxLen := by unfold maxLen; omega
  have HGI : Hid (From w 15 #[.int .i64 order, .int .i64 one, .slice a0 n0 c0] fun W e w' => e = .returned (.bool false) ∧ w' = W) := fun W hb => by
    refine (rgi_any order one a0 n0 c0 zs W (hz0.keep hb) HM0).mono ?_
    rintro e w' ⟨bb, rfl, hbb, rfl⟩
    refine ⟨?_, rfl⟩
    cases bb
    · rfl
    · exact absurd (hbb.1 rfl) hg
  have HGd : Hid (From w 13 #[.int .i64 order, .agg #[.int .i64 one, .slice a0 n0 c0]] fun W e w' => e = .returned (.bool false) ∧ Below W.heap.size W w') := fun W hb => by
    refine (igood_any order one a0 n0 c0 zs W (hz0.keep hb) HM0).mono ?_
    rintro e w' ⟨bb, rfl, hbb, hb2⟩
    refine ⟨?_, hb2⟩
    cases bb
    · rfl
    · exact absurd (hbb.1 rfl) hg
  have HDc : Hid (∀ W r c, Zs W r n0 zs → Calls Try.prog 10 #[.int .i64 order, .agg #[.int .i64 one, .slice r n0 c]] W fun e w' => e = .returned (.tuple #[.slice none 0 0, .int .i64 1]) ∧ Below W.heap.size W w') := fun W r c hz => decode_bad order one r n0 c zs W hz HM0 hg
  have HSt : Hid (∃ nS cS cR, ∃ S : List Int, nS ≤ 64 ∧ (∀ W r c, Zs W r n1 xs → Calls Try.prog 14 #[.slice r n1 c] W fun e w' => ∃ a', e = .returned (.slice a' nS cS) ∧ Zs w' a' nS S ∧ Below W.heap.size W w') ∧ (∀ W r c, Zs W r n1 xs → Calls Try.prog 18 #[.slice r n1 c] W fun e w' => ∃ a' c', e = .returned (.slice a' nS c') ∧ Zs w' a' nS S ∧ Below W.heap.size W w') ∧ cR = 0) := by
    by_cases h64 : n1 ≤ 64
    · have hl : (steadyZ xs).length = n1 := by rw [steadyZ_len, hz1.len]
      refine ⟨n1, n1, 0, steadyZ xs, h64, fun W r c hz => ?_, fun W r c hz => ?_, rfl⟩
      · refine (steady_any r n1 c xs W hz h64).mono ?_
        rintro e w' ⟨a', rfl, hn, hb⟩
        exact ⟨a', rfl, Zs.of_new hn hl, hb⟩
      · refine (rsteady_any r n1 c xs W hz h64).mono ?_
        rintro e w' ⟨a', c', rfl, hn, hb⟩
        exact ⟨a', c', rfl, Zs.of_new hn hl, hb⟩
    · refine ⟨0, 0, 0, [], by decide, fun W r c hz => ?_, fun W r c hz => ?_, rfl⟩
      · refine (steady_far r n1 c W (by omega) (by omega)).mono ?_
        rintro e w' ⟨rfl, rfl⟩
        exact ⟨none, rfl, Zs.nil _ _, Below.refl _ _⟩
      · refine (rsteady_far r n1 c W (by omega) (by omega)).mono ?_
        rintro e w' ⟨rfl, rfl⟩
        exact ⟨none, 0, rfl, Zs.nil _ _, Below.refl _ _⟩
  obtain ⟨nS, cS, _, S, hnS, hst1, hst2, _⟩ := HSt.out
  have HS1 : Hid (∀ W r c, Zs W r n1 xs → Calls Try.prog 14 #[.slice r n1 c] W fun e w' => ∃ a', e = .returned (.slice a' nS cS) ∧ Zs w' a' nS S ∧ Below W.heap.size W w') := hst1
  have HS2 : Hid (∀ W r c, Zs W r n1 xs → Calls Try.prog 18 #[.slice r n1 c] W fun e w' => ∃ a' c', e = .returned (.slice a' nS c') ∧ Zs w' a' nS S ∧ Below W.heap.size W w') := hst2
  clear HSt hst1 hst2
  have HBt : Hid (From w 11 #[.slice a1 n1 c1, .slice a2 n2 c2, .int .i64 v] fun W e w' => e = .returned (.tuple #[.slice none 0 0, .int .i64 1]) ∧ w' = W) := fun W hb => between_bad a1 a2 n1 n2 c1 c2 v W (by unfold maxLen; omega) (by unfold maxLen; omega) hbt
  obtain ⟨hs16, hso⟩ := hs
  have h16 : n1 = 10 ∨ n1 = 16 := by omega
  have hT : (twosZ (n1 : Int) xs).length = n1 := twosZ_len _ _
  have HSe : Hid (From w 12 #[.int .i64 order, .slice a1 n1 c1] fun W e w' => ∃ a', e = .returned (.tuple #[.agg #[.int .i64 (oneZ n1 xs : Nat), .slice a' n1 n1], .int .i64 0]) ∧ Zs w' a' n1 (twosZ n1 xs) ∧ Below W.heap.size W w') := fun W hb => by
    rw [← hso]
    refine (search_good xs a1 n1 c1 W h16 (hz1.keep hb)).mono ?_
    rintro e w' ⟨a', rfl, hn, hb⟩
    exact ⟨a', rfl, Zs.of_new hn hT, hb⟩
  have HRS : Hid (From w 20 #[.int .i64 order, .slice a1 n1 c1] fun W e w' => ∃ a' c', e = .returned (.tuple #[.int .i64 (oneZ n1 xs : Nat), .slice a' n1 c']) ∧ Zs w' a' n1 (twosZ n1 xs) ∧ Below W.heap.size W w') := fun W hb => by
    rw [← hso]
    refine (rsearch_any xs a1 n1 c1 W h16 (hz1.keep hb)).mono ?_
    rintro e w' ⟨a', c', rfl, hn, hb⟩
    exact ⟨a', c', rfl, Zs.of_new hn hT, hb⟩
  have h1lt := oneZ_lt n1 xs
  have q3 : ((n1 : Int) != order) = false := by rw [hso]; exact bne_self_eq_false _
  have hn16 : 10 ≤ n1 ∧ n1 ≤ 16 := by omega
  clear hT h16 hso
  generalize oneZ (n1 : Int) xs = o at *
  generalize twosZ (n1 : Int) xs = T at *
  have HL1 : Hid (xs.length = n1) := hz1.len
  have yA : Hid True := trivial
  have yB : Hid True := trivial
  have HZ0 : Hid (∀ W, Below w.heap.size w W → Zs W a0 n0 zs) := fun W hb => hz0.keep hb
  have HZ1 : Hid (∀ W, Below w.heap.size w W → Zs W a1 n1 xs) := fun W hb => hz1.keep hb
  clear hz0 hz1 hz2 HM0
  have hi := Idx.new w (.int .i64 one) (.slice a0 n0 c0)
  have hB := (Below.refl w.heap.size w).alloc (Nat.le_refl _) (.cells #[.int .i64 one, .slice a0 n0 c0] 29)
  rcases hs16 with h | h
  case' inl =>
    have q1 : (order != 10) = false := by rw [h]; rfl
  case' inr =>
    have q1 : (order != 10) = true := by rw [h]; rfl
    have q2 : (order != 16) = false := by rw [h]; rfl
  all_goals
    clear h
    go_enter Try.func4, Try.ntmps4
    go_wp2_with (first
      | (go_at_call 9; refine (awake_any _).mono ?_; rintro e w1 ⟨rfl, hb1⟩; replace hi := hi.keep hb1; obtain ⟨x0, x1⟩ := hi.cells; replace hB := hB.trans (hb1.mono hB.size); clear hb1)
      | (go_at_call 15; refine (HGI.out _ hB).mono ?_; rintro e w2 ⟨rfl, hw2⟩; rw [← hw2] at hB hi x0 x1; clear hw2))
    replace hi := hi.drew
    replace hB := hB.drew
    obtain ⟨hS0, hS1⟩ := hi.cells
    go_region_held3 (fun W => W.cell? ⟨w.heap.size, 0, none⟩ = some (.int .i64 one) ∧ W.cell? ⟨w.heap.size, 1, none⟩ = some (.slice a0 n0 c0)) (first | (exact ⟨by assumption, by assumption⟩) | go_keep) (first
      | ((refine step_copy_zs rfl (.tmp 47) (.tmp 49) rfl a0 n0 c0 zs (HZ0.out _ hB) (by omega) (by simp [Act.eval]) (by simp [Act.eval]) ?_; intro r9 c9 w6 hz6 hb6; replace hi := hi.keep hb6; obtain ⟨hS0, hS1⟩ := hi.cells; replace hB := hB.trans (hb6.mono hB.size)))
      | (go_at_call 10; go_loud (refine (HDc.out _ _ _ hz6).mono ?_; rintro e w7 ⟨rfl, hb7⟩; replace hi := hi.keep hb7; obtain ⟨hS0, hS1⟩ := hi.cells; replace hB := hB.trans (hb7.mono hB.size); clear hb7)))
    go_wp2_with (first
      | (go_at_call 13; go_loud (refine (HGd.out _ hB).mono ?_; rintro e w8 ⟨rfl, hb8⟩; replace hi := hi.keep hb8; obtain ⟨x0, x1⟩ := hi.cells; replace hB := hB.trans (hb8.mono hB.size); clear hb8))
      | (at_builtin; go_loud (refine wpList_append_copy 23 2 Try.underlying23 info_int64 a1 n1 c1 xs (HZ1.out _ hB).len (by omega) (fun h => zs_adds (HZ1.out _ hB) h) rfl _ _ rfl rfl rfl ?_; intro r10 c10 w10 hn10 hb10; have hz10 := Zs.of_new hn10 HL1.out; replace hB := hB.trans (hb10.mono hB.size); clear hb10 hn10))
      | (go_at_call 14; go_loud (refine (HS1.out _ _ _ hz10).mono ?_; rintro e w11 ⟨a11, rfl, hz11, hb11⟩; replace hB := hB.trans (hb11.mono hB.size); clear hb11 hz10))
      | (go_at_call 18; go_loud (refine (HS2.out _ _ _ (HZ1.out _ hB)).mono ?_; rintro e w12 ⟨a12, c12, rfl, hz12, hb12⟩; replace hz11 := hz11.keep hb12; replace hB := hB.trans (hb12.mono hB.size); clear hb12))
      | (go_at_call 16; clear yB; go_loud (refine (zsame_any _ _ nS _ _ S _ hz11 hz12 (by omega)).mono ?_; rintro e wB ⟨rfl, kB, rfl⟩; replace hB := below_drewN hB kB; clear hz11 hz12))
      | (go_at_call 11; go_loud (refine (HBt.out _ hB).mono ?_; rintro e w13 ⟨rfl, hw13⟩; rw [← hw13] at hB; clear hw13))
      | (go_at_call 12; go_loud (refine (HSe.out _ hB).mono ?_; rintro e w15 ⟨a15, rfl, hz15, hb15⟩; have hix := Idx.new w15 (.int .i64 (o : Int)) (.slice a15 n1 n1); replace hz15 := hz15.alloc (.cells #[.int .i64 (o : Int), .slice a15 n1 n1] 29); have hB5 := hB.trans (hb15.mono hB.size); replace hB := hB5.alloc hB5.size (.cells #[.int .i64 (o : Int), .slice a15 n1 n1] 29); clear hb15 hB5))
      | (go_at_call 20; go_loud (refine (HRS.out _ hB).mono ?_; rintro e w16 ⟨a16, c16, rfl, hz16, hb16⟩; replace hix := hix.keep hb16; obtain ⟨u0, u1⟩ := hix.cells; replace hz15 := hz15.keep hb16; replace hB := hB.trans (hb16.mono hB.size); clear hb16)))
    all_goals
      try (exfalso; omega)
    all_goals
      have H1 : Hid (∃ b off, a15 = some ⟨b, off, none⟩ ∧ ∀ i, i < n1 → w16.cell? ⟨b, off + i, none⟩ = some (.int .i64 (T[i]?.getD 0))) := by obtain ⟨b, off, e, _, hc⟩ := hz15.at_ (by omega); exact ⟨b, off, e, hc⟩
      have H2 : Hid (∃ b off, a16 = some ⟨b, off, none⟩ ∧ ∀ i, i < n1 → w16.cell? ⟨b, off + i, none⟩ = some (.int .i64 (T[i]?.getD 0))) := by obtain ⟨b, off, e, _, hc⟩ := hz16.at_ (by omega); exact ⟨b, off, e, hc⟩
      have HBW : Hid (Below w.heap.size w w16) := hB
      obtain ⟨b1, o1, rfl, g1⟩ := H1.out
      obtain ⟨b2, o2, rfl, g2⟩ := H2.out
      have G1 : Hid (∀ i, i < n1 → w16.cell? ⟨b1, o1 + i, none⟩ = some (.int .i64 (T[i]?.getD 0))) := g1
      have G2 : Hid (∀ i, i < n1 → w16.cell? ⟨b2, o2 + i, none⟩ = some (.int .i64 (T[i]?.getD 0))) := g2
      clear g1 g2 H1 H2 hz15 hz16 hB hi hix u0 HGI HGd HDc HS1 HS2 HBt HSe HRS HZ0 HZ1
      go_loopw [20] (fun i W => (∃ d, W = w16.drewN d) ∧ ∃ k : Nat, k ≤ n1 ∧ i = .int .i64 k) (fun i _ => n1 - (intOf i).toNat)
      case atStart => exact ⟨⟨0, rfl⟩, 0, Nat.zero_le _, rfl⟩
      case round =>
        obtain ⟨⟨d, rfl⟩, k, hk, rfl⟩ := hrel
        by_cases hlt : k < n1
        · have hc1 := G1.out k hlt
          have hc2 := G2.out k hlt
          clear G1 G2
          generalize T[k]?.getD 0 = x at hc1 hc2
          go_wp2
          go_quiet (fail)
          all_goals
            go_wp2
            go_roundw
            case rel => exact ⟨⟨_, rfl⟩, k + 1, by omega, by go_num⟩
            case measure => simp [intOf]; omega
        · go_wp2
          go_ret
          exact ⟨rfl, below_drewN HBW.out d⟩

set_option maxRecDepth 100000 in
set_option maxHeartbeats 8000000 in
theorem says_nnn (order one : Int) (a0 : Option Addr) (n0 c0 : Nat) (zs : List Int) (a1 : Option Addr) (n1 c1 : Nat) (xs : List Int) (a2 : Option Addr) (n2 c2 : Nat) (ys : List Int) (v : Int) (w : World) (hz0 : Zs w a0 n0 zs) (hz1 : Zs w a1 n1 xs) (hz2 : Zs w a2 n2 ys) (h0 : n0 ≤ 100) (h1 : n1 ≤ 100) (h2 : n2 ≤ 100)
    (hg : ¬ GoodX order one zs) (hbt : ¬ (n1 = n2 ∧ n1 ≤ 64 ∧ 0 ≤ v ∧ v ≤ 4)) (hs : ¬ ((order = 10 ∨ order = 16) ∧ (n1 : Int) = order)) :
    Calls Try.prog 4 #[.int .i64 order, .agg #[.int .i64 one, .slice a0 n0 c0], .slice a1 n1 c1, .slice a2 n2 c2, .int .i64 v] w fun e w' => e = .returned (.bool true) ∧ Below w.heap.size w w' := by
  have HM0 : n0 ≤ maxLen := by unfold maxLen; omega
  have HGI : Hid (From w 15 #[.int .i64 order, .int .i64 one, .slice a0 n0 c0] fun W e w' => e = .returned (.bool false) ∧ w' = W) := fun W hb => by
    refine (rgi_any order one a0 n0 c0 zs W (hz0.keep hb) HM0).mono ?_
    rintro e w' ⟨bb, rfl, hbb, rfl⟩
    refine ⟨?_, rfl⟩
    cases bb
    · rfl
    · exact absurd (hbb.1 rfl) hg
  have HGd : Hid (From w 13 #[.int .i64 order, .agg #[.int .i64 one, .slice a0 n0 c0]] fun W e w' => e = .returned (.bool false) ∧ Below W.heap.size W w') := fun W hb => by
    refine (igood_any order one a0 n0 c0 zs W (hz0.keep hb) HM0).mono ?_
    rintro e w' ⟨bb, rfl, hbb, hb2⟩
    refine ⟨?_, hb2⟩
    cases bb
    · rfl
    · exact absurd (hbb.1 rfl) hg
  have HDc : Hid (∀ W r c, Zs W r n0 zs → Calls Try.prog 10 #[.int .i64 order, .agg #[.int .i64 one, .slice r n0 c]] W fun e w' => e = .returned (.tuple #[.slice none 0 0, .int .i64 1]) ∧ Below W.heap.size W w') := fun W r c hz => decode_bad order one r n0 c zs W hz HM0 hg
  have HSt : Hid (∃ nS cS cR, ∃ S : List Int, nS ≤ 64 ∧ (∀ W r c, Zs W r n1 xs → Calls Try.prog 14 #[.slice r n1 c] W fun e w' => ∃ a', e = .returned (.slice a' nS cS) ∧ Zs w' a' nS S ∧ Below W.heap.size W w') ∧ (∀ W r c, Zs W r n1 xs → Calls Try.prog 18 #[.slice r n1 c] W fun e w' => ∃ a' c', e = .returned (.slice a' nS c') ∧ Zs w' a' nS S ∧ Below W.heap.size W w') ∧ cR = 0) := by
    by_cases h64 : n1 ≤ 64
    · have hl : (steadyZ xs).length = n1 := by rw [steadyZ_len, hz1.len]
      refine ⟨n1, n1, 0, steadyZ xs, h64, fun W r c hz => ?_, fun W r c hz => ?_, rfl⟩
      · refine (steady_any r n1 c xs W hz h64).mono ?_
        rintro e w' ⟨a', rfl, hn, hb⟩
        exact ⟨a', rfl, Zs.of_new hn hl, hb⟩
      · refine (rsteady_any r n1 c xs W hz h64).mono ?_
        rintro e w' ⟨a', c', rfl, hn, hb⟩
        exact ⟨a', c', rfl, Zs.of_new hn hl, hb⟩
    · refine ⟨0, 0, 0, [], by decide, fun W r c hz => ?_, fun W r c hz => ?_, rfl⟩
      · refine (steady_far r n1 c W (by omega) (by omega)).mono ?_
        rintro e w' ⟨rfl, rfl⟩
        exact ⟨none, rfl, Zs.nil _ _, Below.refl _ _⟩
      · refine (rsteady_far r n1 c W (by omega) (by omega)).mono ?_
        rintro e w' ⟨rfl, rfl⟩
        exact ⟨none, 0, rfl, Zs.nil _ _, Below.refl _ _⟩
  obtain ⟨nS, cS, _, S, hnS, hst1, hst2, _⟩ := HSt.out
  have HS1 : Hid (∀ W r c, Zs W r n1 xs → Calls Try.prog 14 #[.slice r n1 c] W fun e w' => ∃ a', e = .returned (.slice a' nS cS) ∧ Zs w' a' nS S ∧ Below W.heap.size W w') := hst1
  have HS2 : Hid (∀ W r c, Zs W r n1 xs → Calls Try.prog 18 #[.slice r n1 c] W fun e w' => ∃ a' c', e = .returned (.slice a' nS c') ∧ Zs w' a' nS S ∧ Below W.heap.size W w') := hst2
  clear HSt hst1 hst2
  have HBt : Hid (From w 11 #[.slice a1 n1 c1, .slice a2 n2 c2, .int .i64 v] fun W e w' => e = .returned (.tuple #[.slice none 0 0, .int .i64 1]) ∧ w' = W) := fun W hb => between_bad a1 a2 n1 n2 c1 c2 v W (by unfold maxLen; omega) (by unfold maxLen; omega) hbt
  have HSe : Hid (From w 12 #[.int .i64 order, .slice a1 n1 c1] fun W e w' => e = .returned (.tuple #[.agg #[.int .i64 0, .slice none 0 0], .int .i64 1]) ∧ Below W.heap.size W w') := fun W hb => search_bad order a1 n1 c1 W (by unfold maxLen; omega) hs
  have HL1 : Hid (xs.length = n1) := hz1.len
  have yA : Hid True := trivial
  have yB : Hid True := trivial
  have HZ0 : Hid (∀ W, Below w.heap.size w W → Zs W a0 n0 zs) := fun W hb => hz0.keep hb
  have HZ1 : Hid (∀ W, Below w.heap.size w W → Zs W a1 n1 xs) := fun W hb => hz1.keep hb
  clear hz0 hz1 hz2 HM0
  have hi := Idx.new w (.int .i64 one) (.slice a0 n0 c0)
  have hB := (Below.refl w.heap.size w).alloc (Nat.le_refl _) (.cells #[.int .i64 one, .slice a0 n0 c0] 29)
  go_enter Try.func4, Try.ntmps4
  go_wp2_with (first
    | (go_at_call 9; refine (awake_any _).mono ?_; rintro e w1 ⟨rfl, hb1⟩; replace hi := hi.keep hb1; obtain ⟨x0, x1⟩ := hi.cells; replace hB := hB.trans (hb1.mono hB.size); clear hb1)
    | (go_at_call 15; refine (HGI.out _ hB).mono ?_; rintro e w2 ⟨rfl, hw2⟩; rw [← hw2] at hB hi x0 x1; clear hw2))
  replace hi := hi.drew
  replace hB := hB.drew
  obtain ⟨hS0, hS1⟩ := hi.cells
  go_region_held3 (fun W => W.cell? ⟨w.heap.size, 0, none⟩ = some (.int .i64 one) ∧ W.cell? ⟨w.heap.size, 1, none⟩ = some (.slice a0 n0 c0)) (first | (exact ⟨by assumption, by assumption⟩) | go_keep) (first
    | ((refine step_copy_zs rfl (.tmp 47) (.tmp 49) rfl a0 n0 c0 zs (HZ0.out _ hB) (by omega) (by simp [Act.eval]) (by simp [Act.eval]) ?_; intro r9 c9 w6 hz6 hb6; replace hi := hi.keep hb6; obtain ⟨hS0, hS1⟩ := hi.cells; replace hB := hB.trans (hb6.mono hB.size)))
    | (go_at_call 10; go_loud (refine (HDc.out _ _ _ hz6).mono ?_; rintro e w7 ⟨rfl, hb7⟩; replace hi := hi.keep hb7; obtain ⟨hS0, hS1⟩ := hi.cells; replace hB := hB.trans (hb7.mono hB.size); clear hb7)))
  go_wp2_with (first
    | (go_at_call 13; go_loud (refine (HGd.out _ hB).mono ?_; rintro e w8 ⟨rfl, hb8⟩; replace hi := hi.keep hb8; obtain ⟨x0, x1⟩ := hi.cells; replace hB := hB.trans (hb8.mono hB.size); clear hb8))
    | (at_builtin; go_loud (refine wpList_append_copy 23 2 Try.underlying23 info_int64 a1 n1 c1 xs (HZ1.out _ hB).len (by omega) (fun h => zs_adds (HZ1.out _ hB) h) rfl _ _ rfl rfl rfl ?_; intro r10 c10 w10 hn10 hb10; have hz10 := Zs.of_new hn10 HL1.out; replace hB := hB.trans (hb10.mono hB.size); clear hb10 hn10))
    | (go_at_call 14; go_loud (refine (HS1.out _ _ _ hz10).mono ?_; rintro e w11 ⟨a11, rfl, hz11, hb11⟩; replace hB := hB.trans (hb11.mono hB.size); clear hb11 hz10))
    | (go_at_call 18; go_loud (refine (HS2.out _ _ _ (HZ1.out _ hB)).mono ?_; rintro e w12 ⟨a12, c12, rfl, hz12, hb12⟩; replace hz11 := hz11.keep hb12; replace hB := hB.trans (hb12.mono hB.size); clear hb12))
    | (go_at_call 16; clear yB; go_loud (refine (zsame_any _ _ nS _ _ S _ hz11 hz12 (by omega)).mono ?_; rintro e wB ⟨rfl, kB, rfl⟩; replace hB := below_drewN hB kB; clear hz11 hz12))
    | (go_at_call 11; go_loud (refine (HBt.out _ hB).mono ?_; rintro e w13 ⟨rfl, hw13⟩; rw [← hw13] at hB; clear hw13))
    | (go_at_call 12; go_loud (refine (HSe.out _ hB).mono ?_; rintro e w15 ⟨rfl, hb15⟩; have hB5 := hB.trans (hb15.mono hB.size); replace hB := hB5.alloc hB5.size (.cells #[.int .i64 0, .slice none 0 0] 29); clear hb15 hB5)))
  all_goals first
    | (exfalso; omega)
    | (go_ret
       exact ⟨rfl, hB⟩)

end Go.Proofs.Ytpppnagodlpnjaa
