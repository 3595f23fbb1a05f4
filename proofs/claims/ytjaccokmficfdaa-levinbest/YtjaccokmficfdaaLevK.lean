/- Package levin's own Solve: the filter that foretells a sound. -/
import Derived.Test.YtjaccokmficfdaaLevH
namespace Go.Proofs.Ytjaccokmficfdaa
namespace Lev
open Go.RowKit

set_option maxRecDepth 100000 in
set_option maxHeartbeats 6400000 in
theorem found_any (a : Option Addr) (n cap o : Nat) (rm : List Int) (w : World) (hz : Zs w a n rm) (hno : n = o + 1) (ho : o ≤ 32) (hwd : Wide rm) (h1 : 1 ≤ r0Z rm ∧ r0Z rm ≤ 2147483648) :
    Calls Try.prog 23 #[.slice a n cap] w fun e w' => ∃ a' c', e = .returned (.slice a' o c') ∧ NewRow 2 w.heap.size w' a' (levN rm o).1 ∧ Below w.heap.size w w' := by
  have HZ : Hid (∀ W, Below w.heap.size w W → Zs W a n rm) := fun W hW => hz.keep hW
  have HO : Hid (n = o + 1 ∧ o ≤ 32) := ⟨hno, ho⟩
  have HWD : Hid (Wide rm ∧ 1 ≤ r0Z rm ∧ r0Z rm ≤ 2147483648) := ⟨hwd, h1⟩
  have H0 : Hid ((levN rm 0).2 = r0Z rm) := rfl
  have HNIL : Hid (w.ownsRow w.heap.size 2 1 (.slice none 0 0) 0 ((levN rm 0).1.map (Value.int .i64)) ∧ Below w.heap.size w w) := ⟨World.ownsRow_nil _ _ _ _, Below.refl _ _⟩
  obtain ⟨b, off, rfl, _, hc⟩ := hz.at_ (by omega)
  have hc0 : w.cell? ⟨b, off, none⟩ = some (.int .i64 (r0Z rm)) := hc 0 (by omega)
  rw [← H0.out] at hc0
  have hw1 : (n : Int) - 1 = (o : Int) := by omega
  have hnI : (n : Int) ≤ 33 := by omega
  have hn0 : (0 : Int) < (n : Int) := by omega
  have hoI : (o : Int) ≤ 32 := by omega
  clear hz hno ho hwd h1 hc
  go_enter Try.func23, Try.ntmps23
  go_wp2
  go_loopw [3, 4, 5, 12] (fun v e _ i W => ∃ m : Nat, m ≤ o ∧ i = .int .i64 m ∧ e = .int .i64 (levN rm m).2 ∧ Hid (W.ownsRow w.heap.size 2 1 v m ((levN rm m).1.map (Value.int .i64)) ∧ Below w.heap.size w W)) (fun _ _ _ i _ => o - (intOf i).toNat)
  case atStart => exact ⟨0, Nat.zero_le _, rfl, rfl, HNIL.out⟩
  case round =>
    clear hc0 HNIL
    obtain ⟨m, hm, rfl, rfl, HM⟩ := hrel
    have hAl := levN_len rm m
    have hEn := levN_en (r := rm) HWD.out.2 m
    have HSUC : Hid (levN rm (m + 1) = (nextA (levN rm m).1 (turnK (levN rm m).1 rm (levN rm m).2 m) m, nextEn (levN rm m).2 (turnK (levN rm m).1 rm (levN rm m).2 m))) := rfl
    obtain ⟨_, av, ac, rfl, hnew⟩ := NewRow.of_owned HM.out.1
    have HBW : Hid (Below w.heap.size w wr) := HM.out.2
    have hoo := HO.out
    by_cases hmo : m < o
    · have HAI : Hid (∀ i : Nat, -2147483648 ≤ (levN rm m).1[i]?.getD 0 ∧ (levN rm m).1[i]?.getD 0 ≤ 2147483648) := levA_in rm m
      generalize (levN rm m).1 = A at *
      generalize (levN rm m).2 = En at *
      have HA : Hid (∀ W, Below wr.heap.size wr W → Zs W av m A) := fun W hW => (Zs.of_new hnew hAl).keep hW
      have HR : Hid (Zs wr (some ⟨b, off, none⟩) n rm) := HZ.out wr HBW.out
      have HMO : Hid (m < o ∧ o ≤ 32 ∧ A.length = m ∧ 1 ≤ En ∧ En ≤ 2147483648 ∧ m + 1 < n ∧ n ≤ 33) := ⟨hmo, by omega, hAl, hEn.1, hEn.2, by omega, by omega⟩
      have hmoI : (m : Int) < (o : Int) := by omega
      have HTK : Hid (clampI (divI (sumT A rm m m) En 24) (-16760438) 16760438 = turnK A rm En m) := rfl
      have hTI := turnK_in A rm En m
      have HMI : Hid (Calls Try.prog 42 #[.slice (some ⟨b, off, none⟩) n cap, .slice av m ac] wr fun e w' => e = .returned (.int .i64 (sumT A rm m m)) ∧ w' = wr) := missed_any _ _ n cap m ac rm A wr HR.out (HA.out _ (Below.refl _ _)) HMO.out.2.2.2.2.2.1 HMO.out.2.2.2.2.2.2 HWD.out.1
      generalize turnK A rm En m = K at *
      generalize sumT A rm m m = T at *
      have hkk := prod_le hTI hTI
      have hkk0 := sq_nonneg K
      have hKK : mulI K K 24 = (K * K + 8388608) / 16777216 := by rw [mul24_is, cf_same (by omega) (by omega)]
      have hkin : 0 ≤ mulI K K 24 ∧ mulI K K 24 ≤ 16777216 := by
        rw [hKK]
        omega
      have HEN : Hid ((if mulI En (16777216 - mulI K K 24) 24 < 1 then (1 : Int) else mulI En (16777216 - mulI K K 24) 24) = nextEn En K) := rfl
      have HNA : Hid (nextTo A K m m ++ [K] = nextA A K m) := nextTo_all A K m
      have HMK : Hid (∀ W, Calls Try.prog 25 #[.int .i64 K, .int .i64 K, .int .i64 24] W fun e w' => e = .returned (.int .i64 (mulI K K 24)) ∧ w' = W) := fun W => mul_any K K 24 W
      generalize mulI K K 24 = kk at *
      have HME : Hid (∀ W, Calls Try.prog 25 #[.int .i64 En, .int .i64 (16777216 - kk), .int .i64 24] W fun e w' => e = .returned (.int .i64 (mulI En (16777216 - kk) 24)) ∧ w' = W) := fun W => mul_any En (16777216 - kk) 24 W
      generalize mulI En (16777216 - kk) 24 = ee at *
      have hwk : wrap64 (16777216 - kk) = 16777216 - kk := i64_wrap (by omega) (by omega)
      have y1 : Hid True := trivial
      clear hnew hAl hEn HM hm hmo hkk hkk0 hKK hkin hTI hoo
      go_wp2_with (first
        | (go_at_call 42; refine HMI.out.mono ?_; rintro e wr ⟨rfl, rfl⟩)
        | (go_at_call 41; refine (div_any _ _ _ _).mono ?_; rintro e w' ⟨rfl, nd, rfl⟩)
        | (go_at_call 29; refine (clamp_any _ _ _ _).mono ?_; rw [HTK.out]; rintro e w' ⟨rfl, rfl⟩)
        | (go_at_call 43; go_loud (refine (turned_any av m ac A K _ (HA.out _ (below_drewN (Below.refl _ _) nd)) (by have := HMO.out; omega) HAI.out).mono ?_; rintro e w5 ⟨v5, rfl, hown5, hb5⟩; have HOW5 : Hid (w5.ownsRow wr.heap.size 2 1 v5 m ((nextTo A K m m).map (Value.int .i64)) ∧ wr.heap.size ≤ w5.heap.size ∧ Below wr.heap.size wr w5) := ⟨hown5, hb5.size, (below_drewN (Below.refl _ _) nd).trans hb5⟩; clear hown5 hb5))
        | (at_builtin; go_loud (refine wpList_append_one 23 2 Try.underlying23 info_int64 wr.heap.size _ m _ _ HOW5.out.1 (by have := HMO.out; omega) HOW5.out.2.1 rfl _ _ rfl rfl rfl ?_; rw [HNA.out]; intro v6 w6 hown6 hb6; have HN6 : Hid (w6.ownsRow w.heap.size 2 1 v6 (m + 1) ((nextA A K m).map (Value.int .i64)) ∧ Below w.heap.size w w6) := ⟨own_low hown6 HBW.out.size, HBW.out.trans ((HOW5.out.2.2.trans hb6).mono HBW.out.size)⟩; clear hown6 hb6))
        | (go_at_call 25; clear y1; refine (HMK.out _).mono ?_; rintro e w6 ⟨rfl, rfl⟩)
        | (go_at_call 25; refine (HME.out _).mono ?_; rintro e w6 ⟨rfl, rfl⟩))
      go_roundw
      case rel => exact ⟨m + 1, by have := HMO.out; omega, by go_num, by rw [HEN.out, HSUC.out], by rw [HSUC.out]; exact HN6⟩
      case measure => simp [intOf]; omega
    · obtain rfl : m = o := by omega
      have HE : Hid (NewRow 2 w.heap.size wr av (levN rm m).1 ∧ Below w.heap.size w wr) := ⟨hnew, HBW.out⟩
      clear hnew HM hoo
      go_wp2
      go_ret
      exact ⟨_, _, rfl, HE.out⟩

theorem qSolve_no (a : Option Addr) (n cap : Nat) (w : World) (h : ¬ (2 ≤ n ∧ n ≤ 33)) :
    Calls Try.prog 11 #[.slice a n cap] w fun e w' => e = .returned (.tuple #[.slice none 0 0, .int .i64 1]) ∧ w' = w := by
  by_cases h1 : 2 ≤ n
  · have h2 : ¬ n ≤ 33 := fun h2 => h ⟨h1, h2⟩
    clear h
    go_enter Try.func11, Try.ntmps11
    go_wp2
    go_ret2
    exact ⟨rfl, rfl⟩
  · clear h
    go_enter Try.func11, Try.ntmps11
    go_wp2
    go_ret2
    exact ⟨rfl, rfl⟩

theorem qSolve_nought (a : Option Addr) (n cap o : Nat) (zs : List Int) (w : World) (hz : Zs w a n zs) (hno : n = o + 1) (ho1 : 1 ≤ o) (ho : o ≤ 32) (h0 : r0Z zs < 1) :
    Calls Try.prog 11 #[.slice a n cap] w fun e w' => ∃ a', e = .returned (.tuple #[.slice a' o o, .int .i64 0]) ∧ NewRow 2 w.heap.size w' a' (solveZ zs) ∧ Below w.heap.size w w' := by
  have HE : Hid (solveZ zs = List.replicate o 0) := by
    show _ = _
    unfold solveZ
    rw [if_pos h0, hz.len, hno]
    rfl
  obtain ⟨b, off, rfl, _, hc⟩ := hz.at_ (by omega)
  have hc0 : w.cell? ⟨b, off, none⟩ = some (.int .i64 (r0Z zs)) := hc 0 (by omega)
  have hmk := fun W : World => run_make_row' (P := Try.prog) 23 2 (.int .i64 0) 8 Try.underlying23 info_int64 rfl .i64 .i64 o (by omega) (by omega) W
  have hw1 : (n : Int) - 1 = (o : Int) := by omega
  have hn2 : 2 ≤ n := by omega
  have hn3 : n ≤ 33 := by omega
  have hnI : (n : Int) ≤ 33 := by omega
  have hn2I : (2 : Int) ≤ (n : Int) := by omega
  have hn0 : (0 : Int) < (n : Int) := by omega
  clear hc hz hno ho1 ho
  generalize r0Z zs = z at *
  go_enter Try.func11, Try.ntmps11
  go_wp2
  go_ret2
  rw [HE.out]
  exact ⟨_, rfl, NewRow.made w o, (Below.refl _ _).alloc (Nat.le_refl _) _⟩

set_option maxRecDepth 100000 in
set_option maxHeartbeats 6400000 in
theorem qSolve_some (a : Option Addr) (n cap o : Nat) (zs : List Int) (w : World) (hz : Zs w a n zs) (hno : n = o + 1) (ho1 : 1 ≤ o) (ho : o ≤ 32) (h0 : ¬ r0Z zs < 1) :
    Calls Try.prog 11 #[.slice a n cap] w fun e w' => ∃ a', e = .returned (.tuple #[.slice a' o o, .int .i64 0]) ∧ NewRow 2 w.heap.size w' a' (solveZ zs) ∧ Below w.heap.size w w' := by
  have hl := hz.len
  have HE : Hid (solveZ zs = fitZ ((levN (moreL (normL zs)) o).1.map fun v => mulI v 1 12)) := by
    show _ = _
    unfold solveZ
    rw [if_neg h0, hl, hno]
    rfl
  obtain ⟨⟨nd1, nd2⟩, nwd, nlen⟩ := norm_done (r := zs) (by omega) (by omega)
  have hrm : r0Z (moreL (normL zs)) = r0Z (normL zs) + r0Z (normL zs) / 1024 + 1 := by
    unfold moreL
    show (List.set _ 0 _)[0]?.getD 0 = _
    rw [List.getElem?_set_self (by omega)]
    rfl
  have HML : Hid ((moreL (normL zs)).length = n ∧ Wide (moreL (normL zs)) ∧ 1 ≤ r0Z (moreL (normL zs)) ∧ r0Z (moreL (normL zs)) ≤ 2147483648) := by
    refine ⟨by unfold moreL; rw [List.length_set, nlen, hl], fun i => ?_, by omega, by omega⟩
    by_cases hi : i = 0
    · subst hi
      have := nwd 0
      show -1125899906842624 ≤ r0Z (moreL (normL zs)) ∧ r0Z (moreL (normL zs)) ≤ 1125899906842624
      omega
    · unfold moreL
      rw [List.getElem?_set_ne (Ne.symm hi)]
      exact nwd i
  have HO : Hid (n = o + 1 ∧ 1 ≤ o ∧ o ≤ 32) := ⟨hno, ho1, ho⟩
  have HPR : Hid (∃ A : List Int, A = (levN (moreL (normL zs)) o).1 ∧ A.length = o) := ⟨_, rfl, levN_len _ _⟩
  have HP : Hid (Calls Try.prog 24 #[.slice a n cap] w fun e w' => ∃ a', e = .returned (.slice a' n n) ∧ NewRow 2 w.heap.size w' a' (moreL (normL zs)) ∧ Below w.heap.size w w') := prepared_any a n cap o zs w hz hno ho h0
  have HCELL : Hid (∃ b off, a = some ⟨b, off, none⟩ ∧ w.cell? ⟨b, off, none⟩ = some (.int .i64 (r0Z zs))) := by
    obtain ⟨b, off, e, _, hc⟩ := hz.at_ (by omega)
    exact ⟨b, off, e, hc 0 (by omega)⟩
  obtain ⟨b, off, rfl, hc0⟩ := HCELL.out
  have hz0 : 1 ≤ r0Z zs := by omega
  have hn2 : 2 ≤ n := by omega
  have hn3 : n ≤ 33 := by omega
  have hnI : (n : Int) ≤ 33 := by omega
  have hn2I : (2 : Int) ≤ (n : Int) := by omega
  have hn0 : (0 : Int) < (n : Int) := by omega
  have hoI : (o : Int) ≤ 32 := by omega
  obtain ⟨A, hA, hAl⟩ := HPR.out
  have HEE : Hid (solveZ zs = fitZ (A.map fun v => mulI v 1 12)) := by rw [hA]; exact HE.out
  obtain ⟨F, hF⟩ : ∃ F : List Int, (A.map fun v => mulI v 1 12) = F := ⟨_, rfl⟩
  rw [hF] at HEE
  have HLC : Hid (A.length = o ∧ F.length = o ∧ o ≤ 32) := ⟨hAl, by rw [← hF, List.length_map]; exact hAl, ho⟩
  have HF : Hid (∀ i, i < o → F[i]?.getD 0 = mulI (A[i]?.getD 0) 1 12) := fun i hi => by
    rw [← hF, List.getElem?_map, List.getElem?_eq_getElem (by omega)]
    rfl
  have HFD : Hid (∀ (a : Option Addr) (cap : Nat) (W : World), Zs W a n (moreL (normL zs)) → Calls Try.prog 23 #[.slice a n cap] W fun e w' => ∃ a' c', e = .returned (.slice a' o c') ∧ NewRow 2 W.heap.size w' a' A ∧ Below W.heap.size W w') := fun a cap W hW => by
    rw [hA]
    exact found_any a n cap o _ W hW hno ho HML.out.2.1 HML.out.2.2
  have HMN : Hid ((moreL (normL zs)).length = n) := HML.out.1
  generalize moreL (normL zs) = rm at *
  generalize r0Z zs = z0 at hc0 hz0
  clear hz hl nd1 nd2 nwd nlen hrm hno ho1 ho h0 hA hAl hF HE HML HPR HCELL
  go_enter Try.func11, Try.ntmps11
  go_wp2_with (first
    | (go_at_call 24; go_loud (refine HP.out.mono ?_; rintro e w1 ⟨a1, rfl, hr1, hb1⟩; have HR1 : Hid (Zs w1 a1 n rm ∧ Below w.heap.size w w1) := ⟨Zs.of_new hr1 HMN.out, hb1⟩; clear hr1 hb1))
    | (go_at_call 23; go_loud (refine (HFD.out _ _ _ HR1.out.1).mono ?_; rintro e w2 ⟨a2, c2, rfl, hr2, hb2⟩; have HR2 : Hid (NewRow 2 w.heap.size w2 a2 A ∧ Below w.heap.size w w2) := ⟨newRow_low hr2 HR1.out.2.size, HR1.out.2.trans (hb2.mono HR1.out.2.size)⟩; clear hr2 hb2)))
  obtain ⟨ga, rfl, hga, _⟩ := HR2.out.1.some_of (by have := HLC.out; have := HO.out; omega)
  have HGA : Hid (w.heap.size ≤ ga) := hga
  clear hga hc0
  go_loopw [5, 6, 28] (fun _ _ i W => ∃ j : Nat, j ≤ o ∧ i = .int .i64 j ∧ Hid (NewRow 2 w.heap.size W (some ⟨ga, 0, none⟩) (mixL F A j) ∧ Below w.heap.size w W)) (fun _ _ i _ => o - (intOf i).toNat)
  case atStart => exact ⟨0, Nat.zero_le _, rfl, HR2.out⟩
  case round =>
    clear HR2
    obtain ⟨j, hj, rfl, HJ⟩ := hrel
    by_cases hjo : j < o
    · obtain ⟨hml, hme⟩ := mixL_cell (m := j) HLC.out.2.1 HLC.out.1 hjo
      have hcm := HJ.out.1.cellAt (i := j) (by omega)
      have hfm := HJ.out.1.frozenAt (by omega) j
      rw [hme] at hcm
      have HSET := HJ.out.1.set j (F[j]?.getD 0)
      rw [← mixL_step HLC.out.2.1 HLC.out.1 hjo] at HSET
      have hv := HF.out j hjo
      generalize F[j]?.getD 0 = y at *
      generalize A[j]?.getD 0 = u at *
      have HV : Hid (mulI u 1 12 = y) := hv.symm
      have HN2 : Hid (NewRow 2 w.heap.size (wr.setCell ⟨ga, j, none⟩ (.int .i64 y)) (some ⟨ga, 0, none⟩) (mixL F A (j + 1)) ∧ Below w.heap.size w (wr.setCell ⟨ga, j, none⟩ (.int .i64 y))) := ⟨HSET, HJ.out.2.setCell HGA.out _⟩
      have hjI : (j : Int) < (o : Int) := by omega
      clear hml hme HSET hv HJ
      go_wp2_with (go_at_call 25; refine (mul_any _ _ _ _).mono ?_; rw [HV.out]; rintro e w' ⟨rfl, rfl⟩)
      go_roundw
      case rel => exact ⟨j + 1, by omega, by go_num, HN2⟩
      case measure => simp [intOf]; omega
    · have hjo2 : o = j := by omega
      subst hjo2
      have HD : Hid (NewRow 2 w.heap.size wr (some ⟨ga, 0, none⟩) F ∧ Below w.heap.size w wr) := by
        have h := HJ.out
        rw [mixL_all HLC.out.2.1 HLC.out.1] at h
        exact h
      clear HJ hj hjo
      go_wp2_with (go_at_call 26; go_loud (refine (cfit_any _ o _ F _ (Zs.of_new HD.out.1 HLC.out.2.1) HLC.out.2.2).mono ?_; rintro e w9 ⟨a9, rfl, hr9, hb9⟩; have HR9 : Hid (NewRow 2 w.heap.size w9 a9 (fitZ F) ∧ Below w.heap.size w w9) := ⟨hr9.mono HD.out.2.size, HD.out.2.trans (hb9.mono HD.out.2.size)⟩; clear hr9 hb9))
      go_ret2
      rw [HEE.out]
      exact ⟨_, rfl, HR9.out⟩

end Lev
end Go.Proofs.Ytjaccokmficfdaa
