/- The law LevinNothing answers true: with a filter of noughts all is left, of silence silence; a louder sound has more power. -/
import Derived.Test.YtjaccokmficfdaaLevJ
import Derived.Test.YtjaccokmficfdaaActs
namespace Go.Proofs.Ytjaccokmficfdaa
open Go.RowKit Lev

set_option maxRecDepth 100000 in
set_option maxHeartbeats 3200000 in
theorem levinNothing.walk (x : Option Addr) (n cap : Nat) (zq : List Int) (o : Int) (w : World) (hq : IsRow .i64 w x n cap zq) (_ : (Lit.int .i64 o).wf = true) :
    Calls Try.prog 7 #[.slice x n cap, .int .i64 o] w fun e w' => e = .returned (.bool true) ∧ Below w.heap.size w w' := by
  obtain ⟨hz, hm, _⟩ := Zs.of_isRow hq
  have HCAP : Hid (n ≤ cap) := cap_of_isRow hq
  clear hq
  generalize zq.take n = zs at hz
  have HZ : Hid (∀ W, Below w.heap.size w W → Zs W x n zs) := fun W hW => hz.keep hW
  have HL : Hid (zs.length = n ∧ n ≤ maxLen) := ⟨hz.len, hm⟩
  have hm2 : (n : Int) ≤ 9223372036854775807 := by simp only [maxLen] at hm; omega
  have hb := Below.refl w.heap.size w
  clear hz hm
  by_cases hg : n ≤ 400 ∧ 0 ≤ o ∧ o ≤ 32
  · obtain ⟨hn, ho1, ho2⟩ := hg
    obtain ⟨O, rfl⟩ : ∃ O : Nat, o = (O : Int) := ⟨o.toNat, by omega⟩
    have HN : Hid (n ≤ 400 ∧ O ≤ 32 ∧ n ≤ 960 ∧ n ≤ 1000) := ⟨hn, by omega, by omega, by omega⟩
    have hnI : (n : Int) ≤ 400 := by omega
    have hmkO := fun W : World => run_make_row' (P := Try.prog) 23 2 (.int .i64 0) 8 Try.underlying23 info_int64 rfl .i64 .i64 O (by omega) (by omega) W
    have hmkN := fun W : World => run_make_row' (P := Try.prog) 23 2 (.int .i64 0) 8 Try.underlying23 info_int64 rfl .i64 .i64 n (by omega) (by omega) W
    go_enter Try.func7, Try.ntmps7
    go_wp2_with (go_at_call 9; go_loud (refine (awake_any w).mono ?_; rintro e w1 ⟨rfl, hb1⟩; replace hb := hb.trans (hb1.mono hb.size); clear hb1))
    have HB1 : Hid (Below w.heap.size w w1) := hb
    clear hb
    go_loopw [5] (fun y W => W = w1 ∧ ∃ k : Nat, k ≤ n ∧ y = .int .i64 k ∧ Hid (∀ i, i < k → -16383 ≤ zs[i]?.getD 0 ∧ zs[i]?.getD 0 ≤ 16383)) (fun y _ => n - (intOf y).toNat)
    case atStart => exact ⟨rfl, 0, Nat.zero_le _, rfl, fun i hi => absurd hi (Nat.not_lt_zero _)⟩
    case round =>
      obtain ⟨rfl, k, hk, rfl, HK⟩ := hrel
      by_cases hkn : k < n
      · obtain ⟨b, off, rfl, _, hcx⟩ := (HZ.out _ HB1.out).at_ (by omega)
        have hck := hcx k hkn
        have HKS : Hid (-16383 ≤ zs[k]?.getD 0 → zs[k]?.getD 0 ≤ 16383 → ∀ i, i < k + 1 → -16383 ≤ zs[i]?.getD 0 ∧ zs[i]?.getD 0 ≤ 16383) := fun h1 h2 i hi => by
          rcases Nat.lt_or_ge i k with h | h
          · exact HK.out i h
          · obtain rfl : i = k := by omega
            exact ⟨h1, h2⟩
        generalize zs[k]?.getD 0 = z at hck HKS
        have hknI : (k : Int) < (n : Int) := by omega
        clear HK hcx
        by_cases h1 : z < -16383
        · go_wp2
          go_ret
          exact ⟨rfl, HB1.out⟩
        · by_cases h2 : 16383 < z
          · go_wp2
            go_ret
            exact ⟨rfl, HB1.out⟩
          · have HK2 := HKS.out (by omega) (by omega)
            have HK2 : Hid (∀ i, i < k + 1 → -16383 ≤ zs[i]?.getD 0 ∧ zs[i]?.getD 0 ≤ 16383) := HK2
            clear HKS
            go_wp2
            go_roundw
            case rel => exact ⟨trivial, k + 1, by omega, by go_num, HK2⟩
            case measure => simp [intOf]; omega
      · have hkn2 : n = k := by omega
        subst hkn2
        have hall := within_all HL.out.1 HK.out
        have HRN : Hid (restL zs (List.replicate O 0) = zs) := rest_none (fun i => by have := hall i; omega) (zero_at O)
        have HRS : Hid (restL (List.replicate n 0) [4000, -900] = List.replicate n 0) := rest_silent n _
        have HPW : Hid (powI (twoL zs) = 4 * powI zs) := pow_two hall
        have hpi := powI_in zs
        have HALL : Hid (∀ i : Nat, -16383 ≤ zs[i]?.getD 0 ∧ zs[i]?.getD 0 ≤ 16383) := hall
        obtain ⟨pw, hpw⟩ : ∃ v, powI zs = v := ⟨_, rfl⟩
        have HPE : Hid (powI zs = pw ∧ powI (twoL zs) = 4 * pw) := ⟨hpw, by rw [HPW.out, hpw]⟩
        rw [hpw] at hpi
        have hwz1 : wrap64 (4 * pw) = 4 * pw := i64_wrap (by omega) (by omega)
        have y1 : Hid True := trivial
        clear HK hk hkn hall hpw hpi
        go_wp2_with (first
          | (go_at_call 12; clear y1; go_loud (refine (pRest_yes x _ n cap O O zs (List.replicate O 0) (wr.alloc (.cells (madeCells #[.int .i64 0] O) 2)) (HZ.out _ (HB1.out.alloc HB1.out.size _)) (zs_made wr O rfl) HN.out.2.2.1 HN.out.2.1 (Nat.le_refl _)).mono ?_; rw [HRN.out]; rintro e w3 ⟨a3, c3, rfl, hr3, hb3⟩; have hb := (HB1.out.alloc HB1.out.size (.cells (madeCells #[.int .i64 0] O) 2)).trans (hb3.mono (HB1.out.alloc HB1.out.size (.cells (madeCells #[.int .i64 0] O) 2)).size); clear hb3))
          | (go_at_call 12; go_loud (refine (pRest_yes _ _ n n 2 2 (List.replicate n 0) [4000, -900] ((w3.alloc (.cells (madeCells #[.int .i64 0] n) 2)).alloc (.cells #[.int .i64 4000, .int .i64 (-900)] 2)) ((zs_made w3 n rfl).alloc _) (lit2 _ 4000 (-900) (by simp)) HN.out.2.2.1 (by decide) (Nat.le_refl _)).mono ?_; rw [HRS.out]; rintro e w4 ⟨a4, c4, rfl, hr4, hb4⟩; have hbx := ((Below.refl w3.heap.size w3).alloc (Nat.le_refl _) (.cells (madeCells #[.int .i64 0] n) 2)).alloc (by simp) (.cells #[.int .i64 4000, .int .i64 (-900)] 2); replace hbx := hbx.trans (hb4.mono hbx.size); replace hr3 := hr3.keep hbx; replace hb := hb.trans (hbx.mono hb.size); clear hb4 hbx)))
        have HR3 : Hid (∀ W, Below w4.heap.size w4 W → Zs W a3 n zs) := fun W hW => Zs.of_new (hr3.keep hW) HL.out.1
        have HR4 : Hid (∀ W, Below w4.heap.size w4 W → Zs W a4 n (List.replicate n 0)) := fun W hW => Zs.of_new (hr4.keep hW) List.length_replicate
        have HB4 : Hid (Below w.heap.size w w4) := hb
        have HX4 : Hid (∀ W, Below w4.heap.size w4 W → Zs W x n zs) := fun W hW => HZ.out W (HB4.out.trans (hW.mono HB4.out.size))
        clear hr3 hr4 hb
        go_loopw [10, 11] (fun v i W => ∃ k : Nat, k ≤ n ∧ i = .int .i64 k ∧ Hid (W.ownsRow w4.heap.size 2 1 v k ((twoL (zs.take k)).map (Value.int .i64)) ∧ Below w4.heap.size w4 W)) (fun _ i _ => n - (intOf i).toNat)
        case atStart => exact ⟨0, Nat.zero_le _, rfl, World.ownsRow_nil _ _ _ _, Below.refl _ _⟩
        case round =>
          obtain ⟨k, hk, rfl, HH⟩ := hrel
          by_cases hlt : k < n
          · obtain ⟨hown, hbel⟩ := HH.out
            obtain ⟨b, off, rfl, hb0, hc⟩ := (HX4.out _ hbel).at_ (by omega)
            have hck := hc k hlt
            have HS := twoL_take_succ (zs := zs) (k := k) (by have := HL.out; omega)
            have hzk := HALL.out k
            have hsz := hbel.size
            generalize zs[k]?.getD 0 = z at hck HS hzk
            have HS : Hid (twoL (zs.take k) ++ [2 * z] = twoL (zs.take (k + 1))) := HS
            have hz1 := hzk.1
            have hz2 := hzk.2
            have HKB : Hid (k ≤ 1000000) := by have := HN.out; show _ ≤ _; omega
            have hknI : (k : Int) < (n : Int) := by omega
            clear HH hc hzk
            go_wp2_with (at_builtin; go_loud (refine wpList_append_one 23 2 Try.underlying23 info_int64 w4.heap.size _ k _ _ hown HKB.out hsz rfl _ _ rfl rfl rfl ?_; rw [HS.out]; intro v' w10 hown2 hb2; have hb3 := hbel.trans hb2))
            go_roundw
            case rel => exact ⟨k + 1, by omega, by go_num, hown2, hb3⟩
            case measure => simp [intOf]; omega
          · have hkn2 : n = k := by omega
            subst hkn2
            obtain ⟨hown, hbel⟩ := HH.out
            have hlz := HL.out.1
            rw [List.take_of_length_le (by omega)] at hown
            have hroom := room_of_owned hown
            obtain ⟨_, a5, c5, rfl, hnew⟩ := NewRow.of_owned hown
            have HC5 : Hid (n ≤ c5) := hroom _ _ _ rfl
            clear hroom
            have HD : Hid (∀ W, Below wr.heap.size wr W → Zs W a5 n (twoL zs)) := fun W hW => (Zs.of_new hnew (by rw [twoL_len]; exact hlz)).keep hW
            have HBW : Hid (Below w4.heap.size w4 wr) := hbel
            have hbq := Below.refl wr.heap.size wr
            have y2 : Hid True := trivial
            have y3 : Hid True := trivial
            clear HH hown hbel hnew hlz hk hlt
            go_wp2_with (first
              | (go_at_call 14; clear y2; go_loud (refine (zsame_any a3 x n c3 cap zs _ (HR3.out _ (HBW.out.trans (hbq.mono HBW.out.size))) (HX4.out _ (HBW.out.trans (hbq.mono HBW.out.size))) HN.out.2.2.2).mono ?_; rintro e w6 ⟨rfl, k6, hw6⟩; replace hbq := below_drewN hbq k6; rw [← hw6] at hbq; clear hw6))
              | (go_at_call 14; go_loud (refine (zsame_any a4 _ n c4 n (List.replicate n 0) _ (HR4.out _ (HBW.out.trans ((hbq.alloc hbq.size _).mono HBW.out.size))) (zs_made w6 n rfl) HN.out.2.2.2).mono ?_; rintro e w7 ⟨rfl, k7, hw7⟩; replace hbq := below_drewN (hbq.alloc hbq.size (.cells (madeCells #[.int .i64 0] n) 2)) k7; rw [← hw7] at hbq; clear hw7))
              | (go_at_call 15; clear y3; go_loud (refine (pPower a5 n c5 (twoL zs) _ (HD.out _ hbq) HL.out.2 HC5.out).mono ?_; rw [HPE.out.2]; rintro e w8 ⟨rfl, hb8⟩; replace hbq := hbq.trans (hb8.mono hbq.size); clear hb8))
              | (go_at_call 15; go_loud (refine (pPower x n cap zs _ (HX4.out _ (HBW.out.trans (hbq.mono HBW.out.size))) HL.out.2 HCAP.out).mono ?_; rw [HPE.out.1]; rintro e w9 ⟨rfl, hb9⟩; replace hbq := hbq.trans (hb9.mono hbq.size); clear hb9)))
            go_ret
            exact ⟨rfl, HB4.out.trans ((HBW.out.trans (hbq.mono HBW.out.size)).mono HB4.out.size)⟩
  · have HG : Hid (¬ (n ≤ 400 ∧ 0 ≤ o ∧ o ≤ 32)) := hg
    clear hg
    go_enter Try.func7, Try.ntmps7
    go_wp2_with (go_at_call 9; go_loud (refine (awake_any w).mono ?_; rintro e w1 ⟨rfl, hb1⟩; replace hb := hb.trans (hb1.mono hb.size); clear hb1))
    all_goals first
      | (exfalso; have := HG.out; omega)
      | (go_ret; exact ⟨rfl, hb⟩)

end Go.Proofs.Ytjaccokmficfdaa
