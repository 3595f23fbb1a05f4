/- What the document's own Pack comes to: some ways. (Laid by wip/mkrpack.py.) -/
import Derived.Test.YtgiellpepnbpcaaDoorTocXa
namespace Go.Proofs.YtgiellpepnbpcaaDoor
open Go.RowKit

set_option maxRecDepth 100000 in
set_option maxHeartbeats 4000000 in
theorem rpack_f1 (k ch pad : Nat) (a : Option Addr) (n cap : Nat) (fs : List (List Nat)) (B : Nat) (w : World) (h : FramesAt w B a fs) (hn : fs.length = n) (hg : GoodP ⟨k, ch, fs, pad⟩) (ha : alikeN fs = true) (hp : pad = 0) (hn1 : n = 1) :
    Calls Tryd.prog 18 #[.agg #[.int .i64 (k : Nat), .int .i64 (ch : Nat), .slice a n cap, .int .i64 (pad : Nat)]] w fun e w' => (∃ a' m c', e = .returned (.slice a' m c') ∧ w'.ownsRow w.heap.size 5 1 (.slice a' m c') m (bvals (packN ⟨k, ch, fs, pad⟩))) ∧ Below w.heap.size w w' := by
  have hfew := hg.few
  have h1 := hg.some_
  have hch := hg.ch
  have hk := hg.config
  have hpad := hg.pad
  simp only at hfew h1 hch hk hpad
  rw [hn] at hfew h1
  have hcd : codeN pad n false = 0 := by
    unfold codeN
    rw [if_neg (by omega), if_pos (by omega)]
  have HP : Hid (packN ⟨k, ch, fs, pad⟩ = frontN ⟨k, ch, fs, pad⟩ ++ ([] ++ (flatN fs ++ List.replicate pad 0))) := by
    show _ = _
    rw [packN_pieces hg]
    simp only [ha, if_true]
  have HFL : Hid ((frontN ⟨k, ch, fs, pad⟩).length ≤ 10) := frontN_len hg
  obtain ⟨X, HX⟩ : ∃ X : Nat, Hid (X = headN ⟨k, ch, fs, pad⟩ ∧ 8 * (k : Int) + 4 * ((ch : Int) - 1) = (X : Nat) ∧ X ≤ 250) := ⟨_, rfl, by unfold headN; simp only; omega, by unfold headN; simp only; omega⟩
  have HFR : Hid ([X] = frontN ⟨k, ch, fs, pad⟩) := by
    show _ = _
    rw [HX.out.1]
    unfold frontN codeByte
    simp only [ha, hn, Bool.not_true, hcd]
    simp [hp]
  have HA : Hid (alikeTo fs n = true) := by show _ = _; rw [← hn, alikeTo_all]; exact ha
  have HSH : Hid (∀ f ∈ fs, f.length ≤ 1275) := hg.short
  have HF : Hid (FramesAt w B a fs) := h
  have HN : Hid (fs.length = n) := hn
  have HX2 : Hid (8 * (k : Int) + 4 * ((ch : Int) - 1) = (X : Nat)) := HX.out.2.1
  have hX250 : X ≤ 250 := HX.out.2.2
  have bX : (0 : Int) ≤ X := by omega
  obtain ⟨b, off, rfl⟩ : ∃ b off, a = some ⟨b, off, none⟩ := by
    obtain ⟨b, off, e, _⟩ := h.at_ (by omega)
    exact ⟨b, off, e⟩
  have hlen60 : n ≤ 12 := hfew
  have b0 : (0 : Int) ≤ k := by omega
  have b1 : k ≤ 11 := hk
  have b2 : (1 : Int) ≤ ch := by omega
  have b3 : (ch : Int) ≤ 2 := by omega
  have b4 : pad ≤ 1000 := hpad
  clear hg h hn ha hcd hch hk hpad hfew
  have hp0 : ((pad : Int) == 0) = true := beq_iff_eq.2 (by omega)
  have hp1 : ¬ ((0 : Int) < (pad : Int)) := by omega
  clear hp
  have hm1 : ((n : Int) == 1) = true := beq_iff_eq.2 (by omega)
  have HN1 : Hid (n = 1) := hn1
  clear hn1
  go_enter Tryd.func18, Tryd.ntmps18
  go_wp2
  go_loopw [5, 6] (fun al i W => ∃ j : Nat, 1 ≤ j ∧ j ≤ n ∧ i = .int .i64 j ∧ al = .bool (alikeTo fs j) ∧ Hid (Below w.heap.size w W ∧ Four W w.heap.size 39 (.int .i64 (k : Nat)) (.int .i64 (ch : Nat)) (.slice (some ⟨b, off, none⟩) n cap) (.int .i64 (pad : Nat)))) (fun _ i _ => n - (intOf i).toNat)
  case atStart => exact ⟨1, Nat.le_refl _, by omega, rfl, by rw [alikeTo_one], (Below.refl _ _).alloc (Nat.le_refl _) _, four_new w _ _ _ _ _⟩
  case round =>
    obtain ⟨j, hj1, hj, rfl, rfl, HR0⟩ := hrel
    obtain ⟨p0, p1, p2, p3⟩ := HR0.out.2.cells
    by_cases hlt : j < n
    · have HAN : Hid (alikeTo fs (j + 1) = (alikeTo fs j && decide ((fs[j]?.getD []).length = (fs[0]?.getD []).length))) := alikeTo_now (by rw [HN.out]; exact hlt)
      obtain ⟨b', off', fa, fcap, e', _, hc, _⟩ := (HF.out.keep HR0.out.1).elem (i := j) (by rw [HN.out]; exact hlt)
      cases e'
      obtain ⟨b', off', ga, gcap, e', _, hc0, _⟩ := (HF.out.keep HR0.out.1).elem (i := 0) (by rw [HN.out]; omega)
      cases e'
      rw [Nat.add_zero] at hc0
      generalize (fs[j]?.getD []).length = x at *
      generalize (fs[0]?.getD []).length = y at *
      have HJ : Hid (j < n) := hlt
      cases hal : alikeTo fs j with
      | false =>
        have HE : Hid (alikeTo fs (j + 1) = false) := by show _ = _; rw [HAN.out, hal]; rfl
        clear hal
        go_wp2
        go_quiet (fail)
        go_wp2
        go_roundw
        case rel => exact ⟨j + 1, by omega, HJ.out, by go_num, by rw [HE.out], Below.drewN HR0.out.1 _, HR0.out.2.drewN _⟩
        case measure => simp [intOf]; have := HJ.out; omega
      | true =>
        by_cases hxy : x = y
        · have HE : Hid (alikeTo fs (j + 1) = true) := by show _ = _; rw [HAN.out, hal, decide_eq_true hxy]; rfl
          have hq : ((x : Int) == (y : Int)) = true := beq_iff_eq.2 (by omega)
          clear hal hxy
          go_wp2
          go_quiet (fail)
          go_wp2
          go_roundw
          case rel => exact ⟨j + 1, by omega, HJ.out, by go_num, by rw [HE.out], Below.drewN HR0.out.1 _, HR0.out.2.drewN _⟩
          case measure => simp [intOf]; have := HJ.out; omega
        · have HE : Hid (alikeTo fs (j + 1) = false) := by show _ = _; rw [HAN.out, hal, decide_eq_false hxy]; rfl
          have hq : ((x : Int) == (y : Int)) = false := beq_eq_false_iff_ne.2 (by omega)
          clear hal hxy
          go_wp2
          go_quiet (fail)
          go_wp2
          go_roundw
          case rel => exact ⟨j + 1, by omega, HJ.out, by go_num, by rw [HE.out], Below.drewN HR0.out.1 _, HR0.out.2.drewN _⟩
          case measure => simp [intOf]; have := HJ.out; omega
    · have hjn : j = n := by omega
      subst hjn
      have HA2 : Hid (alikeTo fs j = true) := HA.out
      rw [HA2.out]
      have hRb := HR0.out.2
      obtain ⟨s0, s1, s2, s3⟩ := hRb.cellsA
      have hzz : w.heap.size < wr.heap.size := hRb.lt
      go_wp2
      have HM : Hid (MidR w k ch pad (some ⟨b, off, none⟩) j cap (wr.alloc (.cells #[.int .u8 (8 * (k : Int) + 4 * ((ch : Int) - 1))] 5)) (.slice (some ⟨wr.heap.size, 0, none⟩) 1 1) [X]) := ⟨HR0.out.1.alloc HR0.out.1.size _, hRb.alloc _, ob_made wr _ X HX2.out hRb.lt⟩
      replace HM : Hid (MidR w k ch pad (some ⟨b, off, none⟩) j cap (wr.alloc (.cells #[.int .u8 (8 * (k : Int) + 4 * ((ch : Int) - 1))] 5)) (.slice (some ⟨wr.heap.size, 0, none⟩) 1 1) (frontN ⟨k, ch, fs, pad⟩)) := by rw [← HFR.out]; exact HM.out
      go_loopw [7, 11] (fun v i W => ∃ i3 : Nat, i3 ≤ j ∧ i = .int .i64 i3 ∧ Hid (MidR w k ch pad (some ⟨b, off, none⟩) j cap W v ((frontN ⟨k, ch, fs, pad⟩) ++ flatN (fs.take i3)))) (fun _ i _ => j - (intOf i).toNat)
      case atStart => exact ⟨0, Nat.zero_le _, rfl, by show MidR _ _ _ _ _ _ _ _ _ _; have e : (frontN ⟨k, ch, fs, pad⟩) ++ flatN (fs.take 0) = frontN ⟨k, ch, fs, pad⟩ := List.append_nil _; rw [e]; exact HM.out⟩
      case round =>
        clear HM
        obtain ⟨i3, hi3, rfl, HM⟩ := hrel
        have hms := HM.out.size
        have HLEN : Hid (((frontN ⟨k, ch, fs, pad⟩) ++ flatN (fs.take i3)).length ≤ 100 + 1275 * i3) := by
          have h8 := flatN_le HSH.out i3
          have h9 := HFL.out
          have h10 := HN.out
          show _ ≤ _
          simp only [List.length_append]
          omega
        by_cases hlt : i3 < j
        · obtain ⟨b', off', fa, fcap, e', _, hc, hnil, hcf, hrow⟩ := (HF.out.keep HM.out.below).elem (i := i3) (by rw [HN.out]; exact hlt)
          cases e'
          have hx : (fs[i3]?.getD []).length ≤ 1275 := HSH.out _ (by rw [List.getElem?_eq_getElem (by rw [HN.out]; omega)]; exact List.getElem_mem _)
          have HL : Hid (flatN (fs.take (i3 + 1)) = flatN (fs.take i3) ++ (fs[i3]?.getD [])) := flatN_take (by rw [List.getElem?_eq_getElem (by rw [HN.out]; omega)]; rfl)
          have HBS : Hid (Bs wr fa (fs[i3]?.getD []).length fcap (fs[i3]?.getD [])) := ⟨hrow.mono (Nat.zero_le _), rfl, hnil, hcf, by omega⟩
          generalize fs[i3]?.getD [] = f at *
          generalize hxl : f.length = x at *
          have HXL : Hid (f.length = x) := hxl
          have HLT : Hid (i3 < j) := hlt
          have hlti : ((i3 : Int) < (j : Int)) = True := eq_true (by omega)
          clear hxl hrow hnil hlt
          obtain ⟨bs0, HBE⟩ : ∃ q, Hid (q = (frontN ⟨k, ch, fs, pad⟩) ++ flatN (fs.take i3)) := ⟨_, rfl⟩
          obtain ⟨n0, HN0⟩ : ∃ q, Hid (bs0.length = q) := ⟨_, rfl⟩
          have HO0 : Hid (wr.ownsRow (w.heap.size + 1) 5 1 u7 n0 (bvals bs0)) := by
            have h8 := HM.out.own
            rw [← HBE.out] at h8
            rw [← HN0.out]
            exact h8
          have HLN : Hid (n0 ≤ 100 + 1275 * i3) := by
            have h8 := HLEN.out
            rw [← HBE.out, HN0.out] at h8
            exact h8
          go_wp2_with (at_builtin; go_loud (refine wpList_append_bytes (w.heap.size + 1) _ n0 bs0 fa x fcap f HO0.out HBS.out.news (by have := HLN.out; omega) hms rfl _ _ rfl rfl rfl ?_; intro a7 c7 w7 ho7 hg7; have HO7 : Hid _ := ho7; have HB7 : Hid (Below (w.heap.size + 1) wr w7) := grown_own hg7 (fun k hk => (HM.out.own.lt k hk).1) hms; clear ho7 hg7))
          go_roundw
          case rel => exact ⟨i3 + 1, HLT.out, by go_num, HM.out.step HB7.out (by rw [HL.out, ← List.append_assoc, ← HBE.out]; show World.ownsRow _ _ _ _ _ _ _; rw [List.length_append, HXL.out, HN0.out]; exact HO7.out)⟩
          case measure => simp [intOf]; have := HLT.out; omega
        · have hi3n : i3 = j := by omega
          subst hi3n
          have hne2 : ¬ ((i3 : Int) < (i3 : Int)) := Int.lt_irrefl _
          have HM9 : Hid (MidR w k ch pad (some ⟨b, off, none⟩) i3 cap wr u7 ((frontN ⟨k, ch, fs, pad⟩) ++ flatN fs)) := by
            have h8 := HM.out
            rw [← HN.out, flatN_all] at h8
            rw [← HN.out]
            exact h8
          have HLEN9 : Hid (((frontN ⟨k, ch, fs, pad⟩) ++ flatN fs).length ≤ 20000) := by
            have h8 := HLEN.out
            rw [← HN.out, flatN_all] at h8
            have h9 := HN.out
            show _ ≤ _
            omega
          have HPK : Hid (((frontN ⟨k, ch, fs, pad⟩) ++ flatN fs) ++ List.replicate pad 0 = packN ⟨k, ch, fs, pad⟩) := by
            show _ = _
            rw [HP.out]
            simp
          clear HM HLEN
          generalize ((frontN ⟨k, ch, fs, pad⟩) ++ flatN fs) = L at *
          go_wp2
          go_loopw [7, 12] (fun v i W => ∃ q : Nat, q ≤ pad ∧ i = .int .i64 q ∧ Hid (MidR w k ch pad (some ⟨b, off, none⟩) i3 cap W v (L ++ List.replicate q 0))) (fun _ i _ => pad - (intOf i).toNat)
          case atStart => exact ⟨0, Nat.zero_le _, rfl, by show MidR _ _ _ _ _ _ _ _ _ _; have e : L ++ List.replicate 0 0 = L := List.append_nil _; rw [e]; exact HM9.out⟩
          case round =>
            clear HM9
            obtain ⟨q, hq, rfl, HM⟩ := hrel
            have hms := HM.out.size
            obtain ⟨p4, p5, p6, p7⟩ := HM.out.box.cells
            by_cases hlt : q < pad
            · exact absurd hlt (by omega)
            · have hqp : q = pad := by omega
              subst hqp
              have HO9 : Hid (Ob (w.heap.size + 1) wr u7 (packN ⟨k, ch, fs, q⟩)) := by rw [← HPK.out]; exact HM.out.own
              have HB9 : Hid (Below w.heap.size w wr) := HM.out.below
              obtain ⟨a9, c9, hv9⟩ := ownsRow_form HO9.out
              subst hv9
              go_wp2
              go_ret
              exact ⟨⟨_, _, _, rfl, ownsRow_mono HO9.out (by omega)⟩, HB9.out⟩

set_option maxRecDepth 100000 in
set_option maxHeartbeats 4000000 in
theorem rpack_f2a (k ch pad : Nat) (a : Option Addr) (n cap : Nat) (fs : List (List Nat)) (B : Nat) (w : World) (h : FramesAt w B a fs) (hn : fs.length = n) (hg : GoodP ⟨k, ch, fs, pad⟩) (ha : alikeN fs = true) (hp : pad = 0) (hn1 : n = 2) :
    Calls Tryd.prog 18 #[.agg #[.int .i64 (k : Nat), .int .i64 (ch : Nat), .slice a n cap, .int .i64 (pad : Nat)]] w fun e w' => (∃ a' m c', e = .returned (.slice a' m c') ∧ w'.ownsRow w.heap.size 5 1 (.slice a' m c') m (bvals (packN ⟨k, ch, fs, pad⟩))) ∧ Below w.heap.size w w' := by
  have hfew := hg.few
  have h1 := hg.some_
  have hch := hg.ch
  have hk := hg.config
  have hpad := hg.pad
  simp only at hfew h1 hch hk hpad
  rw [hn] at hfew h1
  have hcd : codeN pad n false = 1 := by
    unfold codeN
    rw [if_neg (by omega), if_neg (by omega)]; rfl
  have HP : Hid (packN ⟨k, ch, fs, pad⟩ = frontN ⟨k, ch, fs, pad⟩ ++ ([] ++ (flatN fs ++ List.replicate pad 0))) := by
    show _ = _
    rw [packN_pieces hg]
    simp only [ha, if_true]
  have HFL : Hid ((frontN ⟨k, ch, fs, pad⟩).length ≤ 10) := frontN_len hg
  obtain ⟨X, HX⟩ : ∃ X : Nat, Hid (X = headN ⟨k, ch, fs, pad⟩ ∧ 8 * (k : Int) + 4 * ((ch : Int) - 1) = (X : Nat) ∧ X ≤ 250) := ⟨_, rfl, by unfold headN; simp only; omega, by unfold headN; simp only; omega⟩
  have HFR : Hid ([X + 1] = frontN ⟨k, ch, fs, pad⟩) := by
    show _ = _
    rw [HX.out.1]
    unfold frontN codeByte
    simp only [ha, hn, Bool.not_true, hcd]
    simp [hp]
  have HA : Hid (alikeTo fs n = true) := by show _ = _; rw [← hn, alikeTo_all]; exact ha
  have HSH : Hid (∀ f ∈ fs, f.length ≤ 1275) := hg.short
  have HF : Hid (FramesAt w B a fs) := h
  have HN : Hid (fs.length = n) := hn
  have HX2 : Hid (8 * (k : Int) + 4 * ((ch : Int) - 1) = (X : Nat)) := HX.out.2.1
  have hX250 : X ≤ 250 := HX.out.2.2
  have bX : (0 : Int) ≤ X := by omega
  obtain ⟨b, off, rfl⟩ : ∃ b off, a = some ⟨b, off, none⟩ := by
    obtain ⟨b, off, e, _⟩ := h.at_ (by omega)
    exact ⟨b, off, e⟩
  have hlen60 : n ≤ 12 := hfew
  have b0 : (0 : Int) ≤ k := by omega
  have b1 : k ≤ 11 := hk
  have b2 : (1 : Int) ≤ ch := by omega
  have b3 : (ch : Int) ≤ 2 := by omega
  have b4 : pad ≤ 1000 := hpad
  clear hg h hn ha hcd hch hk hpad hfew
  have hp0 : ((pad : Int) == 0) = true := beq_iff_eq.2 (by omega)
  have hp1 : ¬ ((0 : Int) < (pad : Int)) := by omega
  clear hp
  have hm1 : ((n : Int) == 1) = false := beq_eq_false_iff_ne.2 (by omega)
  have hm2 : ((n : Int) == 2) = true := beq_iff_eq.2 (by omega)
  have HN1 : Hid (n = 2) := hn1
  clear hn1
  go_enter Tryd.func18, Tryd.ntmps18
  go_wp2
  go_loopw [5, 6] (fun al i W => ∃ j : Nat, 1 ≤ j ∧ j ≤ n ∧ i = .int .i64 j ∧ al = .bool (alikeTo fs j) ∧ Hid (Below w.heap.size w W ∧ Four W w.heap.size 39 (.int .i64 (k : Nat)) (.int .i64 (ch : Nat)) (.slice (some ⟨b, off, none⟩) n cap) (.int .i64 (pad : Nat)))) (fun _ i _ => n - (intOf i).toNat)
  case atStart => exact ⟨1, Nat.le_refl _, by omega, rfl, by rw [alikeTo_one], (Below.refl _ _).alloc (Nat.le_refl _) _, four_new w _ _ _ _ _⟩
  case round =>
    obtain ⟨j, hj1, hj, rfl, rfl, HR0⟩ := hrel
    obtain ⟨p0, p1, p2, p3⟩ := HR0.out.2.cells
    by_cases hlt : j < n
    · have HAN : Hid (alikeTo fs (j + 1) = (alikeTo fs j && decide ((fs[j]?.getD []).length = (fs[0]?.getD []).length))) := alikeTo_now (by rw [HN.out]; exact hlt)
      obtain ⟨b', off', fa, fcap, e', _, hc, _⟩ := (HF.out.keep HR0.out.1).elem (i := j) (by rw [HN.out]; exact hlt)
      cases e'
      obtain ⟨b', off', ga, gcap, e', _, hc0, _⟩ := (HF.out.keep HR0.out.1).elem (i := 0) (by rw [HN.out]; omega)
      cases e'
      rw [Nat.add_zero] at hc0
      generalize (fs[j]?.getD []).length = x at *
      generalize (fs[0]?.getD []).length = y at *
      have HJ : Hid (j < n) := hlt
      cases hal : alikeTo fs j with
      | false =>
        have HE : Hid (alikeTo fs (j + 1) = false) := by show _ = _; rw [HAN.out, hal]; rfl
        clear hal
        go_wp2
        go_quiet (fail)
        go_wp2
        go_roundw
        case rel => exact ⟨j + 1, by omega, HJ.out, by go_num, by rw [HE.out], Below.drewN HR0.out.1 _, HR0.out.2.drewN _⟩
        case measure => simp [intOf]; have := HJ.out; omega
      | true =>
        by_cases hxy : x = y
        · have HE : Hid (alikeTo fs (j + 1) = true) := by show _ = _; rw [HAN.out, hal, decide_eq_true hxy]; rfl
          have hq : ((x : Int) == (y : Int)) = true := beq_iff_eq.2 (by omega)
          clear hal hxy
          go_wp2
          go_quiet (fail)
          go_wp2
          go_roundw
          case rel => exact ⟨j + 1, by omega, HJ.out, by go_num, by rw [HE.out], Below.drewN HR0.out.1 _, HR0.out.2.drewN _⟩
          case measure => simp [intOf]; have := HJ.out; omega
        · have HE : Hid (alikeTo fs (j + 1) = false) := by show _ = _; rw [HAN.out, hal, decide_eq_false hxy]; rfl
          have hq : ((x : Int) == (y : Int)) = false := beq_eq_false_iff_ne.2 (by omega)
          clear hal hxy
          go_wp2
          go_quiet (fail)
          go_wp2
          go_roundw
          case rel => exact ⟨j + 1, by omega, HJ.out, by go_num, by rw [HE.out], Below.drewN HR0.out.1 _, HR0.out.2.drewN _⟩
          case measure => simp [intOf]; have := HJ.out; omega
    · have hjn : j = n := by omega
      subst hjn
      have HA2 : Hid (alikeTo fs j = true) := HA.out
      rw [HA2.out]
      have hRb := HR0.out.2
      obtain ⟨s0, s1, s2, s3⟩ := hRb.cellsA
      have hzz : w.heap.size < wr.heap.size := hRb.lt
      go_wp2
      have HM : Hid (MidR w k ch pad (some ⟨b, off, none⟩) j cap (wr.alloc (.cells #[.int .u8 ((8 * (k : Int) + 4 * ((ch : Int) - 1)) + 1)] 5)) (.slice (some ⟨wr.heap.size, 0, none⟩) 1 1) [X + 1]) := ⟨HR0.out.1.alloc HR0.out.1.size _, hRb.alloc _, ob_made wr _ (X + 1) (by rw [HX2.out]; rfl) hRb.lt⟩
      replace HM : Hid (MidR w k ch pad (some ⟨b, off, none⟩) j cap (wr.alloc (.cells #[.int .u8 ((8 * (k : Int) + 4 * ((ch : Int) - 1)) + 1)] 5)) (.slice (some ⟨wr.heap.size, 0, none⟩) 1 1) (frontN ⟨k, ch, fs, pad⟩)) := by rw [← HFR.out]; exact HM.out
      go_loopw [7, 11] (fun v i W => ∃ i3 : Nat, i3 ≤ j ∧ i = .int .i64 i3 ∧ Hid (MidR w k ch pad (some ⟨b, off, none⟩) j cap W v ((frontN ⟨k, ch, fs, pad⟩) ++ flatN (fs.take i3)))) (fun _ i _ => j - (intOf i).toNat)
      case atStart => exact ⟨0, Nat.zero_le _, rfl, by show MidR _ _ _ _ _ _ _ _ _ _; have e : (frontN ⟨k, ch, fs, pad⟩) ++ flatN (fs.take 0) = frontN ⟨k, ch, fs, pad⟩ := List.append_nil _; rw [e]; exact HM.out⟩
      case round =>
        clear HM
        obtain ⟨i3, hi3, rfl, HM⟩ := hrel
        have hms := HM.out.size
        have HLEN : Hid (((frontN ⟨k, ch, fs, pad⟩) ++ flatN (fs.take i3)).length ≤ 100 + 1275 * i3) := by
          have h8 := flatN_le HSH.out i3
          have h9 := HFL.out
          have h10 := HN.out
          show _ ≤ _
          simp only [List.length_append]
          omega
        by_cases hlt : i3 < j
        · obtain ⟨b', off', fa, fcap, e', _, hc, hnil, hcf, hrow⟩ := (HF.out.keep HM.out.below).elem (i := i3) (by rw [HN.out]; exact hlt)
          cases e'
          have hx : (fs[i3]?.getD []).length ≤ 1275 := HSH.out _ (by rw [List.getElem?_eq_getElem (by rw [HN.out]; omega)]; exact List.getElem_mem _)
          have HL : Hid (flatN (fs.take (i3 + 1)) = flatN (fs.take i3) ++ (fs[i3]?.getD [])) := flatN_take (by rw [List.getElem?_eq_getElem (by rw [HN.out]; omega)]; rfl)
          have HBS : Hid (Bs wr fa (fs[i3]?.getD []).length fcap (fs[i3]?.getD [])) := ⟨hrow.mono (Nat.zero_le _), rfl, hnil, hcf, by omega⟩
          generalize fs[i3]?.getD [] = f at *
          generalize hxl : f.length = x at *
          have HXL : Hid (f.length = x) := hxl
          have HLT : Hid (i3 < j) := hlt
          have hlti : ((i3 : Int) < (j : Int)) = True := eq_true (by omega)
          clear hxl hrow hnil hlt
          obtain ⟨bs0, HBE⟩ : ∃ q, Hid (q = (frontN ⟨k, ch, fs, pad⟩) ++ flatN (fs.take i3)) := ⟨_, rfl⟩
          obtain ⟨n0, HN0⟩ : ∃ q, Hid (bs0.length = q) := ⟨_, rfl⟩
          have HO0 : Hid (wr.ownsRow (w.heap.size + 1) 5 1 u7 n0 (bvals bs0)) := by
            have h8 := HM.out.own
            rw [← HBE.out] at h8
            rw [← HN0.out]
            exact h8
          have HLN : Hid (n0 ≤ 100 + 1275 * i3) := by
            have h8 := HLEN.out
            rw [← HBE.out, HN0.out] at h8
            exact h8
          go_wp2_with (at_builtin; go_loud (refine wpList_append_bytes (w.heap.size + 1) _ n0 bs0 fa x fcap f HO0.out HBS.out.news (by have := HLN.out; omega) hms rfl _ _ rfl rfl rfl ?_; intro a7 c7 w7 ho7 hg7; have HO7 : Hid _ := ho7; have HB7 : Hid (Below (w.heap.size + 1) wr w7) := grown_own hg7 (fun k hk => (HM.out.own.lt k hk).1) hms; clear ho7 hg7))
          go_roundw
          case rel => exact ⟨i3 + 1, HLT.out, by go_num, HM.out.step HB7.out (by rw [HL.out, ← List.append_assoc, ← HBE.out]; show World.ownsRow _ _ _ _ _ _ _; rw [List.length_append, HXL.out, HN0.out]; exact HO7.out)⟩
          case measure => simp [intOf]; have := HLT.out; omega
        · have hi3n : i3 = j := by omega
          subst hi3n
          have hne2 : ¬ ((i3 : Int) < (i3 : Int)) := Int.lt_irrefl _
          have HM9 : Hid (MidR w k ch pad (some ⟨b, off, none⟩) i3 cap wr u7 ((frontN ⟨k, ch, fs, pad⟩) ++ flatN fs)) := by
            have h8 := HM.out
            rw [← HN.out, flatN_all] at h8
            rw [← HN.out]
            exact h8
          have HLEN9 : Hid (((frontN ⟨k, ch, fs, pad⟩) ++ flatN fs).length ≤ 20000) := by
            have h8 := HLEN.out
            rw [← HN.out, flatN_all] at h8
            have h9 := HN.out
            show _ ≤ _
            omega
          have HPK : Hid (((frontN ⟨k, ch, fs, pad⟩) ++ flatN fs) ++ List.replicate pad 0 = packN ⟨k, ch, fs, pad⟩) := by
            show _ = _
            rw [HP.out]
            simp
          clear HM HLEN
          generalize ((frontN ⟨k, ch, fs, pad⟩) ++ flatN fs) = L at *
          go_wp2
          go_loopw [7, 12] (fun v i W => ∃ q : Nat, q ≤ pad ∧ i = .int .i64 q ∧ Hid (MidR w k ch pad (some ⟨b, off, none⟩) i3 cap W v (L ++ List.replicate q 0))) (fun _ i _ => pad - (intOf i).toNat)
          case atStart => exact ⟨0, Nat.zero_le _, rfl, by show MidR _ _ _ _ _ _ _ _ _ _; have e : L ++ List.replicate 0 0 = L := List.append_nil _; rw [e]; exact HM9.out⟩
          case round =>
            clear HM9
            obtain ⟨q, hq, rfl, HM⟩ := hrel
            have hms := HM.out.size
            obtain ⟨p4, p5, p6, p7⟩ := HM.out.box.cells
            by_cases hlt : q < pad
            · exact absurd hlt (by omega)
            · have hqp : q = pad := by omega
              subst hqp
              have HO9 : Hid (Ob (w.heap.size + 1) wr u7 (packN ⟨k, ch, fs, q⟩)) := by rw [← HPK.out]; exact HM.out.own
              have HB9 : Hid (Below w.heap.size w wr) := HM.out.below
              obtain ⟨a9, c9, hv9⟩ := ownsRow_form HO9.out
              subst hv9
              go_wp2
              go_ret
              exact ⟨⟨_, _, _, rfl, ownsRow_mono HO9.out (by omega)⟩, HB9.out⟩

end Go.Proofs.YtgiellpepnbpcaaDoor
