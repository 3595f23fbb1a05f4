/- What package toc's Pack comes to: some ways. (Laid by wip/mkpack.py.) -/
import Derived.Test.YtgiellpepnbpcaaDoorTocR
namespace Go.Proofs.YtgiellpepnbpcaaDoor
open Go.RowKit

set_option maxHeartbeats 4000000 in
theorem pack_uf (k ch pad : Nat) (a : Option Addr) (n cap : Nat) (fs : List (List Nat)) (B : Nat) (w : World) (hC : CfgAt w) (h : FramesAt w B a fs) (hn : fs.length = n) (hcap : n ≤ cap) (hg : GoodP ⟨k, ch, fs, pad⟩) (ha : alikeN fs = false) (hp : pad = 0) (hn2 : n ≤ 2) :
    Calls Tryd.prog 13 #[.agg #[.int .i64 (k : Nat), .int .i64 (ch : Nat), .slice a n cap, .int .i64 (pad : Nat)]] w fun e w' => (∃ a' m c', e = .returned (.tuple #[.slice a' m c', .int .i64 0]) ∧ w'.ownsRow w.heap.size 5 1 (.slice a' m c') m (bvals (packN ⟨k, ch, fs, pad⟩))) ∧ Below w.heap.size w w' := by
  have hfew := hg.few
  have h1 := hg.some_
  have hch := hg.ch
  have hk := hg.config
  have hpad := hg.pad
  simp only at hfew h1 hch hk hpad
  rw [hn] at hfew h1
  have hn2' : n = 2 := by
    have : n ≠ 1 := fun e => by
      obtain ⟨f, hf⟩ := List.length_eq_one_iff.1 (hn.trans e)
      rw [hf] at ha; cases ha
    omega
  have hcd : codeN pad n true = 2 := by unfold codeN; rw [if_neg (by omega), if_neg (by omega)]; rfl
  have HCD : Hid (codeN pad n true = 2) := hcd
  have HP : Hid (packN ⟨k, ch, fs, pad⟩ = frontN ⟨k, ch, fs, pad⟩ ++ (putsN (lensOf fs) ++ (flatN fs ++ List.replicate pad 0))) := by
    show _ = _
    rw [packN_pieces hg]
    simp only [ha, Bool.false_eq_true, if_false]
  have HFL : Hid ((frontN ⟨k, ch, fs, pad⟩).length ≤ 10) := frontN_len hg
  obtain ⟨X, HX⟩ : ∃ X : Nat, Hid (X = headN ⟨k, ch, fs, pad⟩ + 2 ∧ (k : Int) * 8 + ((ch : Int) - 1) * 4 + 2 = (X : Nat) ∧ X < 256) := ⟨_, rfl, by unfold headN; simp only; omega, by unfold headN; simp only; omega⟩
  have HFR : Hid ([X] = frontN ⟨k, ch, fs, pad⟩) := by
    show _ = _
    rw [HX.out.1]
    unfold frontN codeByte
    simp only [ha, hn, Bool.not_false, hcd]
    simp [hp]
  have HA : Hid (alikeN fs = false) := ha
  have HG : Hid (goodI k ch pad fs) := goodI_of hg
  have HSH : Hid (∀ f ∈ fs, f.length ≤ 1275) := hg.short
  have HF : Hid (FramesAt w B a fs) := h
  have HC : Hid (CfgAt w) := hC
  have HN : Hid (fs.length = n) := hn
  obtain ⟨b, off, rfl⟩ : ∃ b off, a = some ⟨b, off, none⟩ := by
    obtain ⟨b, off, e, _⟩ := h.at_ (by omega)
    exact ⟨b, off, e⟩
  have hlen60 : n ≤ 12 := hfew
  have b0 : (0 : Int) ≤ k := by omega
  have b1 : k ≤ 11 := hk
  have b2 : (1 : Int) ≤ ch := by omega
  have b3 : (ch : Int) ≤ 2 := by omega
  have b4 : pad ≤ 1000 := hpad
  have hn2 : 2 ≤ n := by
    have : n ≠ 1 := fun e => by
      obtain ⟨f, hf⟩ := List.length_eq_one_iff.1 (hn.trans e)
      rw [hf] at ha; cases ha
    omega
  have HPL24 : Hid ((putsN (lensOf fs)).length ≤ 24) := by
    show _ ≤ _
    rw [lensOf_to]
    have h8 := putsN_le (lensTo fs (fs.length - 1))
    have h9 : (lensTo fs (fs.length - 1)).length ≤ fs.length - 1 := by unfold lensTo; rw [List.length_map]; exact List.length_take_le _ _
    omega
  obtain ⟨hq1, hq2⟩ := frames_slice b off n cap ((n : Int) - 1) (by omega) hcap (by omega)
  have b9 : (0 : Int) ≤ (n : Int) - 1 ∧ (n : Int) - 1 ≤ cap := by omega
  clear hg h hC hn ha hcd hch hk hpad hfew hn2'
  subst hp
  go_enter Tryd.func13, Tryd.ntmps13
  go_wp2_with (first
    | (go_at_call 14; go_loud (refine (good_any k ch ((0 : Nat) : Int) _ n cap fs B _ (HC.out.keep ((Below.refl _ _).alloc (Nat.le_refl _) _)) (HF.out.keep ((Below.refl _ _).alloc (Nat.le_refl _) _)) HN.out (by omega)).mono ?_; rintro e w1 ⟨⟨bb, rfl, hb⟩, hb1⟩; obtain rfl : bb = true := hb.2 HG.out; have hB := boxed hb1; have hR := Four.keep (four_new w (.int .i64 (k : Nat)) (.int .i64 (ch : Nat)) (.slice (some ⟨b, off, none⟩) n cap) (.int .i64 (((0 : Nat) : Int))) 25) hb1; obtain ⟨p0, p1, p2, p3⟩ := hR.cells; clear hb))
    | (go_at_call 27; go_loud (refine (alike_any _ n cap fs B _ (HF.out.keep hB) HN.out (by omega)).mono ?_; rw [HA.out]; rintro e w2 ⟨rfl, hb2⟩; replace hB := hB.trans (hb2.mono hB.size); replace hR := hR.keep hb2; obtain ⟨p4, p5, p6, p7⟩ := hR.cells))
    | (go_at_call 28; go_loud (refine (codeOf_any k ch 0 n cap _ true _ (by omega) (by omega)).mono ?_; rw [HCD.out]; rintro e w3 ⟨rfl, hb3⟩; replace hB := hB.trans (hb3.mono hB.size); replace hR := hR.keep hb3; obtain ⟨p8, p9, p10, p11⟩ := hR.cells; obtain ⟨s0, s1, s2, s3⟩ := hR.cellsA; have HM : Hid (Mid w k ch 0 (some ⟨b, off, none⟩) n cap (w3.alloc (.cells #[.int .u8 ((k : Int) * 8 + ((ch : Int) - 1) * 4 + 2)] 5)) (.slice (some ⟨w3.heap.size, 0, none⟩) 1 1) [X]) := ⟨hB.alloc hB.size _, hR.alloc _, ob_made w3 _ X HX.out.2.1 hR.lt⟩)))
  go_loopw [6, 61] (fun v i W => ∃ j : Nat, j + 1 ≤ n ∧ i = .int .i64 j ∧ Hid (Mid w k ch 0 (some ⟨b, off, none⟩) n cap W v (frontN ⟨k, ch, fs, 0⟩ ++ putsN (lensTo fs j)))) (fun _ i _ => n - (intOf i).toNat)
  case atStart => exact ⟨0, by omega, rfl, by show Mid _ _ _ _ _ _ _ _ _ _; have e : frontN ⟨k, ch, fs, 0⟩ ++ putsN (lensTo fs 0) = frontN ⟨k, ch, fs, 0⟩ := List.append_nil _; rw [e, ← HFR.out]; exact HM.out⟩
  case round =>
    clear HM
    obtain ⟨j, hj, rfl, HM⟩ := hrel
    have hms := HM.out.size
    obtain ⟨r0, r1, r2, r3⟩ := HM.out.box.cells
    by_cases hlt : j + 1 < n
    · obtain ⟨b', off', fa, fcap, e', _, hc, _⟩ := (HF.out.keep HM.out.below).elem (i := j) (by rw [HN.out]; omega)
      cases e'
      have hx : (fs[j]?.getD []).length ≤ 1275 := HSH.out _ (by rw [List.getElem?_eq_getElem (by rw [HN.out]; omega)]; exact List.getElem_mem _)
      have HL : Hid (lensTo fs (j + 1) = lensTo fs j ++ [(fs[j]?.getD []).length]) := lensTo_snoc (f := fs[j]?.getD []) (by rw [List.getElem?_eq_getElem (by rw [HN.out]; omega)]; rfl)
      have HLL : Hid ((lensTo fs j).length ≤ j) := by show _ ≤ _; unfold lensTo; rw [List.length_map]; exact List.length_take_le _ _
      have HPL : Hid ((putsN (lensTo fs j)).length ≤ 2 * (lensTo fs j).length) := putsN_le _
      generalize (fs[j]?.getD []).length = x at *
      have hlt2 : (j : Int) < (n : Int) - 1 := by omega
      have HLT : Hid (j + 1 < n) := hlt
      clear hlt
      go_wp2_with (go_at_call 31; go_loud (refine (addLength_any (w.heap.size + 1) _ _ x _ HM.out.own hx (by rw [List.length_append]; have h1 := HFL.out; have h2 := HPL.out; have h3 := HLL.out; omega) hms).mono ?_; rintro e w6 ⟨v6, rfl, ho6, hb6⟩; have HO6 : Hid _ := ho6; have HB6 : Hid (Below (w.heap.size + 1) wr w6) := hb6; clear ho6 hb6))
      go_roundw
      case rel => exact ⟨j + 1, HLT.out, by go_num, HM.out.step HB6.out (by rw [HL.out, putsN_snoc, ← List.append_assoc]; exact HO6.out)⟩
      case measure => simp [intOf]; omega
    · have hne : ¬ (j : Int) < (n : Int) - 1 := by omega
      replace HM : Hid (Mid w k ch 0 (some ⟨b, off, none⟩) n cap wr u6 (frontN ⟨k, ch, fs, 0⟩ ++ putsN (lensOf fs))) := by
        have e : lensOf fs = lensTo fs j := by rw [lensOf_to, HN.out, show n - 1 = j by omega]
        rw [e]
        exact HM.out
      clear hlt hj
      go_wp2
      go_loopw [6, 73] (fun v i W => ∃ j : Nat, j ≤ n ∧ i = .int .i64 j ∧ Hid (Mid w k ch 0 (some ⟨b, off, none⟩) n cap W v ((frontN ⟨k, ch, fs, 0⟩ ++ putsN (lensOf fs)) ++ flatN (fs.take j)))) (fun _ i _ => n - (intOf i).toNat)
      case atStart => exact ⟨0, Nat.zero_le _, rfl, by show Mid _ _ _ _ _ _ _ _ _ _; have e : (frontN ⟨k, ch, fs, 0⟩ ++ putsN (lensOf fs)) ++ flatN (fs.take 0) = frontN ⟨k, ch, fs, 0⟩ ++ putsN (lensOf fs) := List.append_nil _; rw [e]; exact HM.out⟩
      case round =>
        clear HM
        obtain ⟨j, hj, rfl, HM⟩ := hrel
        have hms := HM.out.size
        obtain ⟨r0, r1, r2, r3⟩ := HM.out.box.cells
        have HLEN : Hid (((frontN ⟨k, ch, fs, 0⟩ ++ putsN (lensOf fs)) ++ flatN (fs.take j)).length ≤ 100 + 1275 * j) := by
          have h8 := flatN_le HSH.out j
          have h9 := HFL.out
          have h10 := HPL24.out
          show _ ≤ _
          simp only [List.length_append]
          omega
        by_cases hlt : j < n
        · obtain ⟨b', off', fa, fcap, e', _, hc, hnil, hcf, hrow⟩ := (HF.out.keep HM.out.below).elem (i := j) (by rw [HN.out]; exact hlt)
          cases e'
          have hx : (fs[j]?.getD []).length ≤ 1275 := HSH.out _ (by rw [List.getElem?_eq_getElem (by rw [HN.out]; omega)]; exact List.getElem_mem _)
          have HL : Hid (flatN (fs.take (j + 1)) = flatN (fs.take j) ++ (fs[j]?.getD [])) := flatN_take (by rw [List.getElem?_eq_getElem (by rw [HN.out]; omega)]; rfl)
          have HBS : Hid (Bs wr fa (fs[j]?.getD []).length fcap (fs[j]?.getD [])) := ⟨hrow.mono (Nat.zero_le _), rfl, hnil, hcf, by omega⟩
          generalize fs[j]?.getD [] = f at *
          generalize hxl : f.length = x at *
          have HXL : Hid (f.length = x) := hxl
          clear hxl hrow hnil
          obtain ⟨bs0, HBE⟩ : ∃ q, Hid (q = (frontN ⟨k, ch, fs, 0⟩ ++ putsN (lensOf fs)) ++ flatN (fs.take j)) := ⟨_, rfl⟩
          obtain ⟨n0, HN0⟩ : ∃ q, Hid (bs0.length = q) := ⟨_, rfl⟩
          have HO0 : Hid (wr.ownsRow (w.heap.size + 1) 5 1 u6 n0 (bvals bs0)) := by
            have h8 := HM.out.own
            rw [← HBE.out] at h8
            rw [← HN0.out]
            exact h8
          have HLN : Hid (n0 ≤ 100 + 1275 * j) := by
            have h8 := HLEN.out
            rw [← HBE.out, HN0.out] at h8
            exact h8
          go_wp2_with (at_builtin; go_loud (refine wpList_append_bytes (w.heap.size + 1) _ n0 bs0 fa x fcap f HO0.out HBS.out.news (by have := HLN.out; omega) hms rfl _ _ rfl rfl rfl ?_; intro a7 c7 w7 ho7 hg7; have HO7 : Hid _ := ho7; have HB7 : Hid (Below (w.heap.size + 1) wr w7) := grown_own hg7 (fun k hk => (HM.out.own.lt k hk).1) hms; clear ho7 hg7))
          go_roundw
          case rel => exact ⟨j + 1, by omega, by go_num, HM.out.step HB7.out (by rw [HL.out, ← List.append_assoc, ← HBE.out]; show World.ownsRow _ _ _ _ _ _ _; rw [List.length_append, HXL.out, HN0.out]; exact HO7.out)⟩
          case measure => simp [intOf]; omega
        · obtain rfl : j = n := by omega
          have HO : Hid (Ob (w.heap.size + 1) wr u6 ((frontN ⟨k, ch, fs, 0⟩ ++ putsN (lensOf fs)) ++ flatN fs)) := by
            have h8 := HM.out.own
            rw [← HN.out, flatN_all] at h8
            exact h8
          have HLEN2 : Hid (((frontN ⟨k, ch, fs, 0⟩ ++ putsN (lensOf fs)) ++ flatN fs).length ≤ 100 + 1275 * j) := by
            have h8 := HLEN.out
            rw [← HN.out, flatN_all] at h8
            rw [← HN.out]
            exact h8
          have hne : 0 < ((frontN ⟨k, ch, fs, 0⟩ ++ putsN (lensOf fs)) ++ flatN fs).length := by unfold frontN; simp
          obtain ⟨ag, cg, hv, hag⟩ := ob_some HO.out hne
          subst hv
          have hl20 : ((frontN ⟨k, ch, fs, 0⟩ ++ putsN (lensOf fs)) ++ flatN fs).length ≤ 20000 := by have := HLEN2.out; omega
          have HPK : Hid (((frontN ⟨k, ch, fs, 0⟩ ++ putsN (lensOf fs)) ++ flatN fs) ++ List.replicate 0 0 = packN ⟨k, ch, fs, 0⟩) := by
            show _ = _
            rw [HP.out]
            simp
          replace HO : Hid (wr.ownsRow (w.heap.size + 1) 5 1 (.slice (some ag) ((frontN ⟨k, ch, fs, 0⟩ ++ putsN (lensOf fs)) ++ flatN fs).length cg) ((frontN ⟨k, ch, fs, 0⟩ ++ putsN (lensOf fs)) ++ flatN fs).length (bvals ((frontN ⟨k, ch, fs, 0⟩ ++ putsN (lensOf fs)) ++ flatN fs))) := HO.out
          clear hne HLEN HLEN2
          generalize ((frontN ⟨k, ch, fs, 0⟩ ++ putsN (lensOf fs)) ++ flatN fs) = L at *
          generalize L.length = ll at *
          go_wp2_with (at_builtin; go_loud (refine wpList_append_zeros 0 (by decide) (w.heap.size + 1) ag ll cg L HO.out (by omega) hms rfl _ _ rfl rfl rfl ?_; intro a9 c9 w9 ho9 hb9; have HO9 : Hid (w9.ownsRow w.heap.size 5 1 (.slice a9 (ll + 0) c9) (ll + 0) (bvals (packN ⟨k, ch, fs, 0⟩))) := (by rw [← HPK.out]; exact ownsRow_mono ho9 (by omega)); have HB9 : Hid (Below w.heap.size w w9) := HM.out.below.trans (hb9.mono (by omega)); clear ho9 hb9))
          go_ret2
          exact ⟨⟨_, _, _, rfl, HO9.out⟩, HB9.out⟩


set_option maxHeartbeats 4000000 in
theorem pack_ap (k ch pad : Nat) (a : Option Addr) (n cap : Nat) (fs : List (List Nat)) (B : Nat) (w : World) (hC : CfgAt w) (h : FramesAt w B a fs) (hn : fs.length = n) (hcap : n ≤ cap) (hg : GoodP ⟨k, ch, fs, pad⟩) (ha : alikeN fs = true) (hp : 0 < pad) :
    Calls Tryd.prog 13 #[.agg #[.int .i64 (k : Nat), .int .i64 (ch : Nat), .slice a n cap, .int .i64 (pad : Nat)]] w fun e w' => (∃ a' m c', e = .returned (.tuple #[.slice a' m c', .int .i64 0]) ∧ w'.ownsRow w.heap.size 5 1 (.slice a' m c') m (bvals (packN ⟨k, ch, fs, pad⟩))) ∧ Below w.heap.size w w' := by
  have hfew := hg.few
  have h1 := hg.some_
  have hch := hg.ch
  have hk := hg.config
  have hpad := hg.pad
  simp only at hfew h1 hch hk hpad
  rw [hn] at hfew h1
  have hcd : codeN pad n false = 3 := by unfold codeN; rw [if_pos (by omega)]
  have HCD : Hid (codeN pad n false = 3) := hcd
  have HP : Hid (packN ⟨k, ch, fs, pad⟩ = frontN ⟨k, ch, fs, pad⟩ ++ ([] ++ (flatN fs ++ List.replicate pad 0))) := by
    show _ = _
    rw [packN_pieces hg]
    simp only [ha, if_true]
  have HFL : Hid ((frontN ⟨k, ch, fs, pad⟩).length ≤ 10) := frontN_len hg
  obtain ⟨X, HX⟩ : ∃ X : Nat, Hid (X = headN ⟨k, ch, fs, pad⟩ + 3 ∧ (k : Int) * 8 + ((ch : Int) - 1) * 4 + 3 = (X : Nat) ∧ X < 256) := ⟨_, rfl, by unfold headN; simp only; omega, by unfold headN; simp only; omega⟩
  have HFR : Hid (([X] ++ [n + (if false = true then 128 else 0) + (if true = true then 64 else 0)]) ++ padBytes pad = frontN ⟨k, ch, fs, pad⟩) := by
    show _ = _
    rw [HX.out.1]
    unfold frontN codeByte
    simp only [ha, hn, Bool.not_true, hcd]
    simp [show ¬ pad = 0 by omega]
  have HA : Hid (alikeN fs = true) := ha
  have HG : Hid (goodI k ch pad fs) := goodI_of hg
  have HSH : Hid (∀ f ∈ fs, f.length ≤ 1275) := hg.short
  have HF : Hid (FramesAt w B a fs) := h
  have HC : Hid (CfgAt w) := hC
  have HN : Hid (fs.length = n) := hn
  obtain ⟨b, off, rfl⟩ : ∃ b off, a = some ⟨b, off, none⟩ := by
    obtain ⟨b, off, e, _⟩ := h.at_ (by omega)
    exact ⟨b, off, e⟩
  have hlen60 : n ≤ 12 := hfew
  have b0 : (0 : Int) ≤ k := by omega
  have b1 : k ≤ 11 := hk
  have b2 : (1 : Int) ≤ ch := by omega
  have b3 : (ch : Int) ≤ 2 := by omega
  have b4 : pad ≤ 1000 := hpad
  have b5 : ¬ pad = 0 := by omega
  have b6 : ((0 : Int) < pad) = True := eq_true (by omega)
  clear hg h hC hn ha hcd hch hk hpad hfew
  go_enter Tryd.func13, Tryd.ntmps13
  go_wp2_with (first
    | (go_at_call 14; go_loud (refine (good_any k ch pad _ n cap fs B _ (HC.out.keep ((Below.refl _ _).alloc (Nat.le_refl _) _)) (HF.out.keep ((Below.refl _ _).alloc (Nat.le_refl _) _)) HN.out (by omega)).mono ?_; rintro e w1 ⟨⟨bb, rfl, hb⟩, hb1⟩; obtain rfl : bb = true := hb.2 HG.out; have hB := boxed hb1; have hR := Four.keep (four_new w (.int .i64 (k : Nat)) (.int .i64 (ch : Nat)) (.slice (some ⟨b, off, none⟩) n cap) (.int .i64 ((pad : Nat))) 25) hb1; obtain ⟨p0, p1, p2, p3⟩ := hR.cells; clear hb))
    | (go_at_call 27; go_loud (refine (alike_any _ n cap fs B _ (HF.out.keep hB) HN.out (by omega)).mono ?_; rw [HA.out]; rintro e w2 ⟨rfl, hb2⟩; replace hB := hB.trans (hb2.mono hB.size); replace hR := hR.keep hb2; obtain ⟨p4, p5, p6, p7⟩ := hR.cells))
    | (go_at_call 28; go_loud (refine (codeOf_any k ch pad n cap _ false _ (by omega) (by omega)).mono ?_; rw [HCD.out]; rintro e w3 ⟨rfl, hb3⟩; replace hB := hB.trans (hb3.mono hB.size); replace hR := hR.keep hb3; obtain ⟨p8, p9, p10, p11⟩ := hR.cells; obtain ⟨s0, s1, s2, s3⟩ := hR.cellsA; have HM : Hid (Mid w k ch pad (some ⟨b, off, none⟩) n cap (w3.alloc (.cells #[.int .u8 ((k : Int) * 8 + ((ch : Int) - 1) * 4 + 3)] 5)) (.slice (some ⟨w3.heap.size, 0, none⟩) 1 1) [X]) := ⟨hB.alloc hB.size _, hR.alloc _, ob_made w3 _ X HX.out.2.1 hR.lt⟩))
    | (go_at_call 29; go_loud (refine (addHead_any (w.heap.size + 1) _ [X] n false true _ HM.out.own (by omega) (by simp) HM.out.size).mono ?_; rintro e w4 ⟨v4, rfl, ho4, hb4⟩; replace HM : Hid (Mid w k ch pad (some ⟨b, off, none⟩) n cap w4 v4 _) := HM.out.step hb4 ho4; obtain ⟨p12, p13, p14, p15⟩ := HM.out.box.cells; clear ho4))
    | (go_at_call 30; go_loud (refine (addPad_any (w.heap.size + 1) _ _ pad _ HM.out.own b4 (by simp) HM.out.size).mono ?_; rintro e w5 ⟨v5, rfl, ho5, hb5⟩; replace HM : Hid (Mid w k ch pad (some ⟨b, off, none⟩) n cap w5 v5 _) := HM.out.step hb5 ho5; obtain ⟨p16, p17, p18, p19⟩ := HM.out.box.cells; clear ho5)))
  go_loopw [6, 73] (fun v i W => ∃ j : Nat, j ≤ n ∧ i = .int .i64 j ∧ Hid (Mid w k ch pad (some ⟨b, off, none⟩) n cap W v ((frontN ⟨k, ch, fs, pad⟩) ++ flatN (fs.take j)))) (fun _ i _ => n - (intOf i).toNat)
  case atStart => exact ⟨0, Nat.zero_le _, rfl, by show Mid _ _ _ _ _ _ _ _ _ _; have e : (frontN ⟨k, ch, fs, pad⟩) ++ flatN (fs.take 0) = frontN ⟨k, ch, fs, pad⟩ := List.append_nil _; rw [e, ← HFR.out]; exact HM.out⟩
  case round =>
    clear HM
    obtain ⟨j, hj, rfl, HM⟩ := hrel
    have hms := HM.out.size
    obtain ⟨r0, r1, r2, r3⟩ := HM.out.box.cells
    have HLEN : Hid (((frontN ⟨k, ch, fs, pad⟩) ++ flatN (fs.take j)).length ≤ 100 + 1275 * j) := by
      have h8 := flatN_le HSH.out j
      have h9 := HFL.out
      have h10 := HN.out
      show _ ≤ _
      simp only [List.length_append]
      omega
    by_cases hlt : j < n
    · obtain ⟨b', off', fa, fcap, e', _, hc, hnil, hcf, hrow⟩ := (HF.out.keep HM.out.below).elem (i := j) (by rw [HN.out]; exact hlt)
      cases e'
      have hx : (fs[j]?.getD []).length ≤ 1275 := HSH.out _ (by rw [List.getElem?_eq_getElem (by rw [HN.out]; omega)]; exact List.getElem_mem _)
      have HL : Hid (flatN (fs.take (j + 1)) = flatN (fs.take j) ++ (fs[j]?.getD [])) := flatN_take (by rw [List.getElem?_eq_getElem (by rw [HN.out]; omega)]; rfl)
      have HBS : Hid (Bs wr fa (fs[j]?.getD []).length fcap (fs[j]?.getD [])) := ⟨hrow.mono (Nat.zero_le _), rfl, hnil, hcf, by omega⟩
      generalize fs[j]?.getD [] = f at *
      generalize hxl : f.length = x at *
      have HXL : Hid (f.length = x) := hxl
      clear hxl hrow hnil
      obtain ⟨bs0, HBE⟩ : ∃ q, Hid (q = (frontN ⟨k, ch, fs, pad⟩) ++ flatN (fs.take j)) := ⟨_, rfl⟩
      obtain ⟨n0, HN0⟩ : ∃ q, Hid (bs0.length = q) := ⟨_, rfl⟩
      have HO0 : Hid (wr.ownsRow (w.heap.size + 1) 5 1 u6 n0 (bvals bs0)) := by
        have h8 := HM.out.own
        rw [← HBE.out] at h8
        rw [← HN0.out]
        exact h8
      have HLN : Hid (n0 ≤ 100 + 1275 * j) := by
        have h8 := HLEN.out
        rw [← HBE.out, HN0.out] at h8
        exact h8
      go_wp2_with (at_builtin; go_loud (refine wpList_append_bytes (w.heap.size + 1) _ n0 bs0 fa x fcap f HO0.out HBS.out.news (by have := HLN.out; omega) hms rfl _ _ rfl rfl rfl ?_; intro a7 c7 w7 ho7 hg7; have HO7 : Hid _ := ho7; have HB7 : Hid (Below (w.heap.size + 1) wr w7) := grown_own hg7 (fun k hk => (HM.out.own.lt k hk).1) hms; clear ho7 hg7))
      go_roundw
      case rel => exact ⟨j + 1, by omega, by go_num, HM.out.step HB7.out (by rw [HL.out, ← List.append_assoc, ← HBE.out]; show World.ownsRow _ _ _ _ _ _ _; rw [List.length_append, HXL.out, HN0.out]; exact HO7.out)⟩
      case measure => simp [intOf]; omega
    · obtain rfl : j = n := by omega
      have HO : Hid (Ob (w.heap.size + 1) wr u6 ((frontN ⟨k, ch, fs, pad⟩) ++ flatN fs)) := by
        have h8 := HM.out.own
        rw [← HN.out, flatN_all] at h8
        exact h8
      have HLEN2 : Hid (((frontN ⟨k, ch, fs, pad⟩) ++ flatN fs).length ≤ 100 + 1275 * j) := by
        have h8 := HLEN.out
        rw [← HN.out, flatN_all] at h8
        rw [← HN.out]
        exact h8
      have hne : 0 < ((frontN ⟨k, ch, fs, pad⟩) ++ flatN fs).length := by unfold frontN; simp
      obtain ⟨ag, cg, hv, hag⟩ := ob_some HO.out hne
      subst hv
      have hl20 : ((frontN ⟨k, ch, fs, pad⟩) ++ flatN fs).length ≤ 20000 := by have := HLEN2.out; omega
      have HPK : Hid (((frontN ⟨k, ch, fs, pad⟩) ++ flatN fs) ++ List.replicate pad 0 = packN ⟨k, ch, fs, pad⟩) := by
        show _ = _
        rw [HP.out]
        simp
      replace HO : Hid (wr.ownsRow (w.heap.size + 1) 5 1 (.slice (some ag) ((frontN ⟨k, ch, fs, pad⟩) ++ flatN fs).length cg) ((frontN ⟨k, ch, fs, pad⟩) ++ flatN fs).length (bvals ((frontN ⟨k, ch, fs, pad⟩) ++ flatN fs))) := HO.out
      clear hne HLEN HLEN2
      generalize ((frontN ⟨k, ch, fs, pad⟩) ++ flatN fs) = L at *
      generalize L.length = ll at *
      go_wp2_with (at_builtin; go_loud (refine wpList_append_zeros pad b4 (w.heap.size + 1) ag ll cg L HO.out (by omega) hms rfl _ _ rfl rfl rfl ?_; intro a9 c9 w9 ho9 hb9; have HO9 : Hid (w9.ownsRow w.heap.size 5 1 (.slice a9 (ll + pad) c9) (ll + pad) (bvals (packN ⟨k, ch, fs, pad⟩))) := (by rw [← HPK.out]; exact ownsRow_mono ho9 (by omega)); have HB9 : Hid (Below w.heap.size w w9) := HM.out.below.trans (hb9.mono (by omega)); clear ho9 hb9))
      go_ret2
      exact ⟨⟨_, _, _, rfl, HO9.out⟩, HB9.out⟩

end Go.Proofs.YtgiellpepnbpcaaDoor
