/- The document's best lags, put in one by one. -/
import Derived.Test.YtamiokleolfnoaaPitchL
namespace Go.Proofs.Ytamiokleolfnoaa
namespace Pit
open Go.RowKit

/-- Where the document's loop stops: behind all that are at least as good. -/
theorem ins_at {zs : List Int} {a : Int} {b k j : Nat} (ha : 1 ≤ a) (hk : a + k ≤ 1000) (hj : j ≤ (topL zs a b k).length) (h1 : ∀ i, i < j → scoreI zs (a + k) ≤ ((topL zs a b k)[i]?.getD (0, 0)).2) (h2 : j < (topL zs a b k).length → ((topL zs a b k)[j]?.getD (0, 0)).2 < scoreI zs (a + k)) :
    (topL zs a b k).take j ++ lagS zs (a + k) :: (topL zs a b k).drop j = insD keyL (lagS zs (a + k)) (topL zs a b k) := by
  have hm : ∀ i (hi : i < (topL zs a b k).length), 1 ≤ (topL zs a b k)[i].1 ∧ (topL zs a b k)[i].1 < a + k := fun i hi => by
    have := (mem_topL (List.getElem_mem hi)).1
    omega
  refine (insD_split keyL _ _ j hj (fun i hi hl => ?_) (fun hl => ?_)).symm
  · have h3 := h1 i hi
    rw [List.getElem?_eq_getElem hl] at h3
    exact (keyL_later (q := lagS zs (a + k)) (hm i hl).1 hk (hm i hl).2).2 h3
  · have h3 := h2 hl
    rw [List.getElem?_eq_getElem hl] at h3
    have h4 := (keyL_later (q := lagS zs (a + k)) (hm j hl).1 hk (hm j hl).2)
    have h5 : ¬ keyL (lagS zs (a + k)) ≤ keyL (topL zs a b k)[j] := fun h => by
      have h6 := h4.1 h
      have h7 : (topL zs a b k)[j].2 < (lagS zs (a + k)).2 := h3
      omega
    omega

set_option maxRecDepth 100000 in
set_option maxHeartbeats 3200000 in
theorem rbest_any (x : Option Addr) (n cap : Nat) (zs : List Int) (a M b d : Nat) (w : World) (hz : Zs w x n zs) (hg : goodLagsB n a M = true) (hb1 : 1 ≤ b) (hb2 : b ≤ 32) (hd : a + d = M) :
    Calls Try.prog 13 #[.slice x n cap, .int .i64 a, .int .i64 M, .int .i64 b] w fun e w' => ∃ v, e = .returned v ∧ RRow w.heap.size w' v (topL zs a b (d + 1)) ∧ Below w.heap.size w w' := by
  have hgd := of_decide_eq_true hg
  have HN : Hid (n ≤ 960 ∧ 1 ≤ a ∧ a + d = M ∧ M ≤ 480 ∧ 1 ≤ b ∧ b ≤ 32) := ⟨hgd.2.1, by omega, hd, by omega, hb1, hb2⟩
  have HZ : Hid (∀ W, Below w.heap.size w W → Zs W x n zs) := fun W hW => hz.keep hW
  clear hgd hz hg hd hb1 hb2
  go_enter Try.func13, Try.ntmps13
  go_wp2
  go_loopw [9, 10] (fun v y W => ∃ k : Nat, k ≤ d + 1 ∧ y = .int .i64 ((a + k : Nat) : Int) ∧ Hid (RRow w.heap.size W v (topL zs a b k) ∧ Below w.heap.size w W)) (fun _ y _ => M + 1 - (intOf y).toNat)
  case atStart => exact ⟨0, Nat.zero_le _, rfl, by rw [topL_zero]; exact World.ownsRow_nil _ _ _ _, Below.refl _ _⟩
  case round =>
    obtain ⟨k, hk, rfl, HH⟩ := hrel
    have hN := HN.out
    by_cases hlt : a + k ≤ M
    · obtain ⟨hrow, hbW⟩ := HH.out
      have hlen := topL_len zs a b k
      have hls : lagS zs ((a : Int) + (k : Int)) = (((a + k : Nat) : Int), scoreI zs ((a + k : Nat) : Int)) := by
        unfold lagS
        rw [Int.natCast_add]
      obtain ⟨l, hl⟩ : ∃ l, topL zs a b k = l := ⟨_, rfl⟩
      have HINS := fun j => ins_at (zs := zs) (a := (a : Int)) (b := b) (k := k) (j := j) (by omega) (by omega)
      have HNX := topL_succ zs a b k
      rw [hl] at HINS HNX hlen hrow
      rw [hls] at HINS HNX
      rw [show (a : Int) + (k : Int) = ((a + k : Nat) : Int) by omega] at HINS
      obtain ⟨q, hq⟩ : ∃ q, a + k = q := ⟨_, rfl⟩
      rw [hq] at HINS HNX
      rw [hq]
      obtain ⟨sc, hsc⟩ : ∃ sc, scoreI zs (q : Int) = sc := ⟨_, rfl⟩
      rw [hsc] at HINS HNX
      have HSC : Hid (scoreI zs (q : Int) = sc) := hsc
      have HINS : Hid (∀ j, j ≤ l.length → (∀ i, i < j → sc ≤ (l[i]?.getD (0, 0)).2) → (j < l.length → (l[j]?.getD (0, 0)).2 < sc) → l.take j ++ ((q : Int), sc) :: l.drop j = insD keyL ((q : Int), sc) l) := HINS
      have HNX : Hid (topL zs a b (k + 1) = (insD keyL ((q : Int), sc) l).take b) := HNX
      have HIL : Hid ((insD keyL ((q : Int), sc) l).length = l.length + 1) := insD_len _ _ _
      have HQ : Hid (a + k = q ∧ k < d + 1 ∧ q ≤ M ∧ M ≤ 480 ∧ l.length = min b k ∧ b ≤ 32 ∧ n ≤ 960) := ⟨hq, by omega, by omega, by omega, hlen, by omega, by omega⟩
      have HZW : Hid (Zs wr x n zs) := HZ.out wr hbW
      have hqM : (q : Int) ≤ (M : Int) := by omega
      have HB : Hid (Below w.heap.size w wr) := hbW
      clear hls hq hsc hl hN hlen hk hlt HH hbW
      have HR : Hid (RRow w.heap.size wr _ l) := hrow
      have HW1 : Hid (wrap64 ((q : Int) + 1) = ((q + 1 : Nat) : Int)) := by
        show _ = _
        have := HQ.out
        rw [show (q : Int) + 1 = ((q + 1 : Nat) : Int) by omega]
        exact i64_wrap (by omega) (by omega)
      rcases hrow.form with ⟨rfl, hl0⟩ | ⟨g, cp, rfl, hcp, hgB, hgl, hcell⟩
      · subst hl0
        have HT : Hid (topL zs a b (k + 1) = [((q : Int), sc)]) := by
          show _ = _
          rw [HNX.out]
          exact List.take_of_length_le (by have := HN.out; show 1 ≤ b; omega)
        clear hrow HNX HINS HIL HR
        go_wp2_with (first
          | (go_at_call 12; go_loud (refine (rScore_any x n cap zs _ _ HZW.out (by have := HQ.out; unfold maxLen; omega)).mono ?_; rw [HSC.out]; rintro e' w2 ⟨rfl, hb2⟩; have HB2 : Hid (Below wr.heap.size wr w2) := hb2; clear hb2)))
        have HV : Hid ((w2.alloc (.cells #[.int .i64 (q : Int), .int .i64 sc] 34)).cell? ⟨w2.heap.size, 0, none⟩ = some (.int .i64 (q : Int)) ∧ (w2.alloc (.cells #[.int .i64 (q : Int), .int .i64 sc] 34)).cell? ⟨w2.heap.size, 1, none⟩ = some (.int .i64 sc) ∧ Below wr.heap.size wr (w2.alloc (.cells #[.int .i64 (q : Int), .int .i64 sc] 34)) ∧ w2.heap.size < (w2.alloc (.cells #[.int .i64 (q : Int), .int .i64 sc] 34)).heap.size) :=
          ⟨by rw [World.cell?_alloc_new]; rfl, by rw [World.cell?_alloc_new]; rfl, HB2.out.alloc HB2.out.size _, by simp⟩
        clear HB2
        generalize w2.alloc (.cells #[.int .i64 (q : Int), .int .i64 sc] 34) = V at *
        generalize w2.heap.size = H at *
        obtain ⟨hv0, hv1, hvB, hvH⟩ := HV.out
        clear hvB hvH
        have HCH : Hid (∀ W, Below V.heap.size V W → W.cell? ⟨H, 0, none⟩ = some (.int .i64 (q : Int)) ∧ W.cell? ⟨H, 1, none⟩ = some (.int .i64 sc)) := fun W hW => ⟨(hW.cell (p := ⟨H, 0, none⟩) HV.out.2.2.2).trans HV.out.1, (hW.cell (p := ⟨H, 1, none⟩) HV.out.2.2.2).trans HV.out.2.1⟩
        have HVW : Hid (Below w.heap.size w V ∧ w.heap.size ≤ V.heap.size) := ⟨HB.out.trans (HV.out.2.2.1.mono HB.out.size), Nat.le_trans HB.out.size HV.out.2.2.1.size⟩
        go_loopw [12] (fun y W => (∃ dd, W = V.drewN dd) ∧ y = .int .i64 0) (fun y _ => (intOf y).toNat)
        case atStart => exact ⟨⟨0, rfl⟩, rfl⟩
        case round =>
          obtain ⟨⟨dd, rfl⟩, rfl⟩ := hrel
          go_wp2
          go_quiet (fail)
          go_wp2
          have hw0 : ∀ k, (V.drewN k).cell? ⟨H, 0, none⟩ = some (.int .i64 (q : Int)) := fun _ => hv0
          have hw1 : ∀ k, (V.drewN k).cell? ⟨H, 1, none⟩ = some (.int .i64 sc) := fun _ => hv1
          go_region_held3 (fun W => W.cell? ⟨H, 0, none⟩ = some (.int .i64 (q : Int)) ∧ W.cell? ⟨H, 1, none⟩ = some (.int .i64 sc)) (first | (exact ⟨by assumption, by assumption⟩) | (exact ⟨cA0 _, cA1 _⟩) | go_keep) (first
            | (go_loud (refine step_append_lags V.heap.size (.slice (some ⟨V.heap.size, 0, none⟩) 0 0) (.slice none 0 0) [] [] (by rfl) (.tmp 40) (.tmp 43) (by rfl) (by rfl) (by rfl) (pre_A V _).1 (.inl ⟨rfl, rfl⟩) (by simp) (pre_A V _).2.size ?_; intro v44 w44 ho44 hg44; have hb44 := grown_below (pre_A V _).1 (pre_A V _).2 hg44; obtain ⟨c0, c1⟩ := HCH.out _ hb44; have cA0 : ∀ o, (w44.alloc o).cell? ⟨H, 0, none⟩ = some (.int .i64 (q : Int)) := (fun o => (HCH.out _ (hb44.alloc hb44.size o)).1); have cA1 : ∀ o, (w44.alloc o).cell? ⟨H, 1, none⟩ = some (.int .i64 sc) := (fun o => (HCH.out _ (hb44.alloc hb44.size o)).2); clear hg44))
            | (go_loud (refine step_append_lags V.heap.size (.slice (some ⟨V.heap.size, 0, none⟩) 0 0) (.slice none 0 0) [] [] (by rfl) (.tmp 40) (.tmp 43) (by rfl) (by rfl) (by rfl) (pre_B V _ (q : Int) sc).1 (.inl ⟨rfl, rfl⟩) (by simp) (pre_B V _ (q : Int) sc).2.size ?_; intro v44 w44 ho44 hg44; have hb44 := grown_below (pre_B V _ (q : Int) sc).1 (pre_B V _ (q : Int) sc).2 hg44; have hx44 := (xat_B V _ (q : Int) sc).next hg44 (Nat.succ_ne_self _); obtain ⟨c0, c1⟩ := HCH.out _ hb44; have cA0 : ∀ o, (w44.alloc o).cell? ⟨H, 0, none⟩ = some (.int .i64 (q : Int)) := (fun o => (HCH.out _ (hb44.alloc hb44.size o)).1); have cA1 : ∀ o, (w44.alloc o).cell? ⟨H, 1, none⟩ = some (.int .i64 sc) := (fun o => (HCH.out _ (hb44.alloc hb44.size o)).2); clear hg44))
            | (go_loud (refine step_append_lags V.heap.size (.slice (some ⟨V.heap.size + 1, 0, none⟩) 0 0) (.slice none 0 0) [] [] (by rfl) (.tmp 40) (.tmp 43) (by rfl) (by rfl) (by rfl) (pre_C V _ (q : Int) sc).1 (.inl ⟨rfl, rfl⟩) (by simp) (pre_C V _ (q : Int) sc).2.size ?_; intro v44 w44 ho44 hg44; have hb44 := grown_below (pre_C V _ (q : Int) sc).1 (pre_C V _ (q : Int) sc).2 hg44; have hx44 := (xat_C V _ (q : Int) sc).next hg44 (Nat.ne_of_lt (Nat.lt_succ_self _)); obtain ⟨c0, c1⟩ := HCH.out _ hb44; have cA0 : ∀ o, (w44.alloc o).cell? ⟨H, 0, none⟩ = some (.int .i64 (q : Int)) := (fun o => (HCH.out _ (hb44.alloc hb44.size o)).1); have cA1 : ∀ o, (w44.alloc o).cell? ⟨H, 1, none⟩ = some (.int .i64 sc) := (fun o => (HCH.out _ (hb44.alloc hb44.size o)).2); clear hg44))
            | (go_loud (refine step_append_lags V.heap.size v44 (.slice (some ⟨w44.heap.size, 0, none⟩) 1 1) ([] ++ []) [((q : Int), sc)] (by rfl) (.tmp 44) (.tmp 46) (by rfl) (by rfl) (by rfl) (ho44.keep ((Below.refl _ _).alloc (Nat.le_refl _) _)) (xat_new w44 (q : Int) sc).src (by simp) (hb44.alloc hb44.size _).size ?_; intro v47 w47 ho47 hg47; have hb47 := grown_below (ho44.keep ((Below.refl _ _).alloc (Nat.le_refl _) _)) (hb44.alloc hb44.size _) hg47; obtain ⟨d0, d1⟩ := HCH.out _ hb47; clear hg47 ho44 hb44 c0 c1 cA0 cA1))
            | (go_loud (refine step_append_lags V.heap.size v44 _ ([] ++ []) [((q : Int), sc)] (by rfl) (.tmp 44) (.tmp 46) (by rfl) (by rfl) (by rfl) ho44 hx44.src (by simp) hb44.size ?_; intro v47 w47 ho47 hg47; have hb47 := grown_below ho44 hb44 hg47; obtain ⟨d0, d1⟩ := HCH.out _ hb47; clear hg47 ho44 hb44 c0 c1 cA0 cA1 hx44))
            | (go_loud (refine step_append_lags V.heap.size v47 (.slice none 0 0) (([] ++ []) ++ [((q : Int), sc)]) [] (by rfl) (.tmp 47) (.tmp 50) (by rfl) (by rfl) (by rfl) ho47 (.inl ⟨rfl, rfl⟩) (by simp) hb47.size ?_; intro v51 w51 ho51 hg51; have hb51 := grown_below ho47 hb47 hg51; obtain ⟨d0, d1⟩ := HCH.out _ hb51; obtain ⟨g51, cp51, rfl, hcp51⟩ := ho51.pos (n := 0) rfl; have HO : Hid (RRow V.heap.size w51 (.slice (some ⟨g51, 0, none⟩) 1 cp51) ([((q : Int), sc)]) ∧ Below V.heap.size V w51) := ⟨ho51, hb51⟩; clear hg51 ho47 hb47 ho51 hb51)))
          clear hw0 hw1 hv0 hv1
          all_goals
            have hcmp : ((b : Int) < 1) = False := eq_false (by have := HN.out; omega)
            go_wp2
            go_roundw
            case rel => exact ⟨k + 1, by have := HQ.out; omega, by rw [← Nat.add_assoc, HQ.out.1]; first | rw [HW1.out] | go_num, by rw [HT.out]; exact HO.out.1.lower HVW.out.2, HVW.out.1.trans (HO.out.2.mono HVW.out.2)⟩
            case measure =>
              have := HQ.out
              first
                | (rw [HW1.out]; simp [intOf]; omega)
                | (simp [intOf]; omega)
      · have HCE : Hid (∀ j, j < l.length → wr.cell? ⟨g, j * 2 + 1, none⟩ = some (.int .i64 (l[j]?.getD (0, 0)).2)) := fun j hj => (hcell _ (by omega)).trans (lvals_at l j hj).2
        have HGL : Hid (g < wr.heap.size ∧ w.heap.size ≤ g ∧ l.length ≤ cp) := ⟨hgl, hgB, hcp⟩
        obtain ⟨m, hm⟩ : ∃ m, l.length = m := ⟨_, rfl⟩
        have HM : Hid (l.length = m) := hm
        rw [hm]
        rw [hm] at hcp
        have hmB : m ≤ 32 := by have := HQ.out; omega
        clear hrow hgB hgl hcell hm
        go_wp2_with (first
          | (go_at_call 12; go_loud (refine (rScore_any x n cap zs _ _ HZW.out (by have := HQ.out; unfold maxLen; omega)).mono ?_; rw [HSC.out]; rintro e' w2 ⟨rfl, hb2⟩; have HB2 : Hid (Below wr.heap.size wr w2) := hb2; have HC2 : Hid (∀ (o : Obj) (j : Nat), j < m → (w2.alloc o).cell? ⟨g, j * 2 + 1, none⟩ = some (.int .i64 (l[j]?.getD (0, 0)).2)) := (fun o j hj => ((hb2.alloc hb2.size o).cell (p := ⟨g, j * 2 + 1, none⟩) HGL.out.1).trans (HCE.out j (by rw [HM.out]; exact hj))); clear hb2)))
        have HV : Hid ((w2.alloc (.cells #[.int .i64 (q : Int), .int .i64 sc] 34)).cell? ⟨w2.heap.size, 0, none⟩ = some (.int .i64 (q : Int)) ∧ (w2.alloc (.cells #[.int .i64 (q : Int), .int .i64 sc] 34)).cell? ⟨w2.heap.size, 1, none⟩ = some (.int .i64 sc) ∧ Below wr.heap.size wr (w2.alloc (.cells #[.int .i64 (q : Int), .int .i64 sc] 34)) ∧ w2.heap.size < (w2.alloc (.cells #[.int .i64 (q : Int), .int .i64 sc] 34)).heap.size) :=
          ⟨by rw [World.cell?_alloc_new]; rfl, by rw [World.cell?_alloc_new]; rfl, HB2.out.alloc HB2.out.size _, by simp⟩
        have HCV : Hid (∀ j, j < m → (w2.alloc (.cells #[.int .i64 (q : Int), .int .i64 sc] 34)).cell? ⟨g, j * 2 + 1, none⟩ = some (.int .i64 (l[j]?.getD (0, 0)).2)) := fun j hj => HC2.out _ j hj
        clear HC2 HB2
        generalize w2.alloc (.cells #[.int .i64 (q : Int), .int .i64 sc] 34) = V at *
        generalize w2.heap.size = H at *
        obtain ⟨hv0, hv1, hvB, hvH⟩ := HV.out
        clear hvB hvH
        go_loopw [12] (fun y W => (∃ dd, W = V.drewN dd) ∧ ∃ j : Nat, j ≤ m ∧ y = .int .i64 j ∧ Hid (∀ i, i < j → sc ≤ (l[i]?.getD (0, 0)).2)) (fun y _ => m - (intOf y).toNat)
        case atStart => exact ⟨⟨0, rfl⟩, 0, Nat.zero_le _, rfl, fun i hi => absurd hi (Nat.not_lt_zero _)⟩
        case round =>
          obtain ⟨⟨dd, rfl⟩, j, hj, rfl, HJ⟩ := hrel
          by_cases hin : j < m ∧ sc ≤ (l[j]?.getD (0, 0)).2
          · obtain ⟨hjm, hge⟩ := hin
            have hcj := HCV.out j hjm
            have HJ2 : Hid (∀ i, i < j + 1 → sc ≤ (l[i]?.getD (0, 0)).2) := fun i hi => by
              rcases Nat.lt_or_ge i j with h | h
              · exact HJ.out i h
              · obtain rfl : i = j := by omega
                exact hge
            generalize (l[j]?.getD (0, 0)).2 = sj at hcj hge
            have hjI : (j : Int) < (m : Int) := by omega
            have hd : decide ((j : Int) < (m : Int)) = true := decide_eq_true hjI
            clear HJ
            go_wp2
            go_quiet (fail)
            go_wp2
            go_roundw
            case rel => exact ⟨⟨_, rfl⟩, j + 1, by omega, by go_num, HJ2⟩
            case measure => simp [intOf]; omega
          · have HE : Hid ((j < m → (l[j]?.getD (0, 0)).2 < sc)) := fun h => by
              have : ¬ sc ≤ (l[j]?.getD (0, 0)).2 := fun h2 => hin ⟨h, h2⟩
              omega
            have HSRC : Hid (∀ W, Below V.heap.size V W → (SrcL W (.slice (some ⟨g, 0, none⟩) j cp) (l.take j)) ∧ ∀ nn c, nn = m - j → SrcL W (.slice (if cp = j then some ⟨g, 0, none⟩ else some ⟨g, j * 2, none⟩) nn c) (l.drop j)) := fun W hW => by
              have h1 := (HR.out.keep ((HV.out.2.2.1).trans (hW.mono HV.out.2.2.1.size))).srcs (by rfl) (j := j) (by rw [HM.out]; exact hj)
              rw [HM.out] at h1
              refine ⟨h1.1 cp, fun nn c hnn => ?_⟩
              by_cases hcj : cp = j
              · rw [if_pos hcj]
                have hnil : l.drop j = [] := List.drop_eq_nil_of_le (by rw [HM.out]; omega)
                rw [hnil]
                exact .inr ⟨⟨g, 0, none⟩, c, by rw [hnn, show m - j = 0 by omega]; rfl, fun i u hu => by simp [lvals] at hu⟩
              · rw [if_neg hcj]
                exact h1.2 nn c hnn
            have HEQ : Hid ((([] ++ l.take j) ++ [((q : Int), sc)]) ++ l.drop j = insD keyL ((q : Int), sc) l) := by
              show _ = _
              rw [← HINS.out j (by rw [HM.out]; exact hj) HJ.out (by rw [HM.out]; exact HE.out)]
              simp
            have HVW : Hid (Below w.heap.size w V ∧ w.heap.size ≤ V.heap.size) := ⟨HB.out.trans (HV.out.2.2.1.mono HB.out.size), Nat.le_trans HB.out.size HV.out.2.2.1.size⟩
            have HCH : Hid (∀ W, Below V.heap.size V W → W.cell? ⟨H, 0, none⟩ = some (.int .i64 (q : Int)) ∧ W.cell? ⟨H, 1, none⟩ = some (.int .i64 sc)) := fun W hW => ⟨(hW.cell (p := ⟨H, 0, none⟩) HV.out.2.2.2).trans HV.out.1, (hW.cell (p := ⟨H, 1, none⟩) HV.out.2.2.2).trans HV.out.2.1⟩
            have HTL : Hid (((([] ++ l.take j) ++ [((q : Int), sc)]) ++ l.drop j).length = m + 1 ∧ ([] : List LagS).length + (l.take j).length ≤ 100000 ∧ (([] : List LagS) ++ l.take j).length + 1 ≤ 100000 ∧ ((([] : List LagS) ++ l.take j) ++ [((q : Int), sc)]).length + (l.drop j).length ≤ 100000) := by
              have hll := HM.out
              have e1 : (l.take j).length = j := by rw [List.length_take]; omega
              have e2 : (l.drop j).length = m - j := by rw [List.length_drop]; omega
              refine ⟨?_, ?_, ?_, ?_⟩
              · simp only [List.nil_append, List.length_append, e1, e2, List.length_cons, List.length_nil]
                omega
              · simp only [List.length_nil, e1]
                omega
              · simp only [List.nil_append, e1]
                omega
              · simp only [List.nil_append, List.length_append, e1, e2, List.length_cons, List.length_nil]
                omega
            have hcpI : (m : Int) ≤ (cp : Int) := by omega
            have hjcp : j ≤ cp := by omega
            have hjcpI : (j : Int) ≤ (cp : Int) := by omega
            by_cases hjm : j < m
            · have hcj := HCV.out j hjm
              have hlt := HE.out hjm
              generalize (l[j]?.getD (0, 0)).2 = sj at hcj hlt
              have hjI : (j : Int) < (m : Int) := by omega
              have hd : decide ((j : Int) < (m : Int)) = true := decide_eq_true hjI
              clear hin
              go_wp2
              go_quiet (fail)
              go_wp2
              have hw0 : ∀ k, (V.drewN k).cell? ⟨H, 0, none⟩ = some (.int .i64 (q : Int)) := fun _ => hv0
              have hw1 : ∀ k, (V.drewN k).cell? ⟨H, 1, none⟩ = some (.int .i64 sc) := fun _ => hv1
              go_region_held3 (fun W => W.cell? ⟨H, 0, none⟩ = some (.int .i64 (q : Int)) ∧ W.cell? ⟨H, 1, none⟩ = some (.int .i64 sc)) (first | (exact ⟨by assumption, by assumption⟩) | (exact ⟨cA0 _, cA1 _⟩) | go_keep) (first
                | (go_loud (refine step_append_lags V.heap.size (.slice (some ⟨V.heap.size, 0, none⟩) 0 0) (.slice (some ⟨g, 0, none⟩) j cp) [] (l.take j) (by rfl) (.tmp 40) (.tmp 43) (by rfl) (by rfl) (by rfl) (pre_A V _).1 (HSRC.out _ (pre_A V _).2).1 HTL.out.2.1 (pre_A V _).2.size ?_; intro v44 w44 ho44 hg44; have hb44 := grown_below (pre_A V _).1 (pre_A V _).2 hg44; obtain ⟨c0, c1⟩ := HCH.out _ hb44; have cA0 : ∀ o, (w44.alloc o).cell? ⟨H, 0, none⟩ = some (.int .i64 (q : Int)) := (fun o => (HCH.out _ (hb44.alloc hb44.size o)).1); have cA1 : ∀ o, (w44.alloc o).cell? ⟨H, 1, none⟩ = some (.int .i64 sc) := (fun o => (HCH.out _ (hb44.alloc hb44.size o)).2); clear hg44))
                | (go_loud (refine step_append_lags V.heap.size (.slice (some ⟨V.heap.size, 0, none⟩) 0 0) (.slice (some ⟨g, 0, none⟩) j cp) [] (l.take j) (by rfl) (.tmp 40) (.tmp 43) (by rfl) (by rfl) (by rfl) (pre_B V _ (q : Int) sc).1 (HSRC.out _ (pre_B V _ (q : Int) sc).2).1 HTL.out.2.1 (pre_B V _ (q : Int) sc).2.size ?_; intro v44 w44 ho44 hg44; have hb44 := grown_below (pre_B V _ (q : Int) sc).1 (pre_B V _ (q : Int) sc).2 hg44; have hx44 := (xat_B V _ (q : Int) sc).next hg44 (Nat.succ_ne_self _); obtain ⟨c0, c1⟩ := HCH.out _ hb44; have cA0 : ∀ o, (w44.alloc o).cell? ⟨H, 0, none⟩ = some (.int .i64 (q : Int)) := (fun o => (HCH.out _ (hb44.alloc hb44.size o)).1); have cA1 : ∀ o, (w44.alloc o).cell? ⟨H, 1, none⟩ = some (.int .i64 sc) := (fun o => (HCH.out _ (hb44.alloc hb44.size o)).2); clear hg44))
                | (go_loud (refine step_append_lags V.heap.size (.slice (some ⟨V.heap.size + 1, 0, none⟩) 0 0) (.slice (some ⟨g, 0, none⟩) j cp) [] (l.take j) (by rfl) (.tmp 40) (.tmp 43) (by rfl) (by rfl) (by rfl) (pre_C V _ (q : Int) sc).1 (HSRC.out _ (pre_C V _ (q : Int) sc).2).1 HTL.out.2.1 (pre_C V _ (q : Int) sc).2.size ?_; intro v44 w44 ho44 hg44; have hb44 := grown_below (pre_C V _ (q : Int) sc).1 (pre_C V _ (q : Int) sc).2 hg44; have hx44 := (xat_C V _ (q : Int) sc).next hg44 (Nat.ne_of_lt (Nat.lt_succ_self _)); obtain ⟨c0, c1⟩ := HCH.out _ hb44; have cA0 : ∀ o, (w44.alloc o).cell? ⟨H, 0, none⟩ = some (.int .i64 (q : Int)) := (fun o => (HCH.out _ (hb44.alloc hb44.size o)).1); have cA1 : ∀ o, (w44.alloc o).cell? ⟨H, 1, none⟩ = some (.int .i64 sc) := (fun o => (HCH.out _ (hb44.alloc hb44.size o)).2); clear hg44))
                | (go_loud (refine step_append_lags V.heap.size v44 (.slice (some ⟨w44.heap.size, 0, none⟩) 1 1) ([] ++ l.take j) [((q : Int), sc)] (by rfl) (.tmp 44) (.tmp 46) (by rfl) (by rfl) (by rfl) (ho44.keep ((Below.refl _ _).alloc (Nat.le_refl _) _)) (xat_new w44 (q : Int) sc).src HTL.out.2.2.1 (hb44.alloc hb44.size _).size ?_; intro v47 w47 ho47 hg47; have hb47 := grown_below (ho44.keep ((Below.refl _ _).alloc (Nat.le_refl _) _)) (hb44.alloc hb44.size _) hg47; obtain ⟨d0, d1⟩ := HCH.out _ hb47; clear hg47 ho44 hb44 c0 c1 cA0 cA1))
                | (go_loud (refine step_append_lags V.heap.size v44 _ ([] ++ l.take j) [((q : Int), sc)] (by rfl) (.tmp 44) (.tmp 46) (by rfl) (by rfl) (by rfl) ho44 hx44.src HTL.out.2.2.1 hb44.size ?_; intro v47 w47 ho47 hg47; have hb47 := grown_below ho44 hb44 hg47; obtain ⟨d0, d1⟩ := HCH.out _ hb47; clear hg47 ho44 hb44 c0 c1 cA0 cA1 hx44))
                | (go_loud (refine step_append_lags V.heap.size v47 (.slice (if cp = j then some ⟨g, 0, none⟩ else some ⟨g, j * 2, none⟩) (m - j) (cp - j)) (([] ++ l.take j) ++ [((q : Int), sc)]) (l.drop j) (by rfl) (.tmp 47) (.tmp 50) (by rfl) (by rfl) (by rfl) ho47 ((HSRC.out _ hb47).2 _ _ rfl) HTL.out.2.2.2 hb47.size ?_; intro v51 w51 ho51 hg51; have hb51 := grown_below ho47 hb47 hg51; obtain ⟨d0, d1⟩ := HCH.out _ hb51; obtain ⟨g51, cp51, rfl, hcp51⟩ := ho51.pos HTL.out.1; have HO : Hid (RRow V.heap.size w51 (.slice (some ⟨g51, 0, none⟩) (m + 1) cp51) (insD keyL ((q : Int), sc) l) ∧ Below V.heap.size V w51) := ⟨(by rw [← HEQ.out]; exact ho51), hb51⟩; clear hg51 ho47 hb47 ho51 hb51)))
              clear hd hw0 hw1 hv0 hv1
              all_goals
                have hmb0 : m ≤ b := by have := HQ.out; have := HM.out; omega
                by_cases hmb : m < b
                · have HT : Hid (topL zs a b (k + 1) = insD keyL ((q : Int), sc) l) := by
                    show _ = _
                    rw [HNX.out, List.take_of_length_le (by rw [HIL.out, HM.out]; omega)]
                  have hcmp : ((b : Int) < (m : Int) + 1) = False := eq_false (by omega)
                  go_wp2
                  go_roundw
                  case rel => exact ⟨k + 1, by have := HQ.out; omega, by rw [← Nat.add_assoc, HQ.out.1]; first | rw [HW1.out] | go_num, by rw [HT.out]; exact HO.out.1.lower HVW.out.2, HVW.out.1.trans (HO.out.2.mono HVW.out.2)⟩
                  case measure =>
                    have := HQ.out
                    first
                      | (rw [HW1.out]; simp [intOf]; omega)
                      | (simp [intOf]; omega)
                · have HT : Hid (m + 1 = b + 1 ∧ b ≤ cp51) := by
                    show _ ∧ _
                    omega
                  have hcmp : ((b : Int) < (m : Int) + 1) = True := eq_true (by omega)
                  have hbm : b ≤ m + 1 := by omega
                  have hbc : b ≤ cp51 := by omega
                  have hbmI : (b : Int) ≤ (m : Int) + 1 := by omega
                  have hbcI : (b : Int) ≤ (cp51 : Int) := by omega
                  go_wp2
                  go_roundw
                  case rel => exact ⟨k + 1, by have := HQ.out; omega, by rw [← Nat.add_assoc, HQ.out.1]; first | rw [HW1.out] | go_num, by rw [HNX.out]; exact (HO.out.1.take (by rw [HIL.out, HM.out]) (by have := HT.out; omega)).lower HVW.out.2, HVW.out.1.trans (HO.out.2.mono HVW.out.2)⟩
                  case measure =>
                    have := HQ.out
                    first
                      | (rw [HW1.out]; simp [intOf]; omega)
                      | (simp [intOf]; omega)
            · have hjm2 : j = m := by omega
              subst hjm2
              clear hin hjm
              have hd : decide ((j : Int) < (j : Int)) = false := decide_eq_false (by omega)
              go_wp2
              go_quiet (fail)
              go_wp2
              have hw0 : ∀ k, (V.drewN k).cell? ⟨H, 0, none⟩ = some (.int .i64 (q : Int)) := fun _ => hv0
              have hw1 : ∀ k, (V.drewN k).cell? ⟨H, 1, none⟩ = some (.int .i64 sc) := fun _ => hv1
              go_region_held3 (fun W => W.cell? ⟨H, 0, none⟩ = some (.int .i64 (q : Int)) ∧ W.cell? ⟨H, 1, none⟩ = some (.int .i64 sc)) (first | (exact ⟨by assumption, by assumption⟩) | (exact ⟨cA0 _, cA1 _⟩) | go_keep) (first
                | (go_loud (refine step_append_lags V.heap.size (.slice (some ⟨V.heap.size, 0, none⟩) 0 0) (.slice (some ⟨g, 0, none⟩) j cp) [] (l.take j) (by rfl) (.tmp 40) (.tmp 43) (by rfl) (by rfl) (by rfl) (pre_A V _).1 (HSRC.out _ (pre_A V _).2).1 HTL.out.2.1 (pre_A V _).2.size ?_; intro v44 w44 ho44 hg44; have hb44 := grown_below (pre_A V _).1 (pre_A V _).2 hg44; obtain ⟨c0, c1⟩ := HCH.out _ hb44; have cA0 : ∀ o, (w44.alloc o).cell? ⟨H, 0, none⟩ = some (.int .i64 (q : Int)) := (fun o => (HCH.out _ (hb44.alloc hb44.size o)).1); have cA1 : ∀ o, (w44.alloc o).cell? ⟨H, 1, none⟩ = some (.int .i64 sc) := (fun o => (HCH.out _ (hb44.alloc hb44.size o)).2); clear hg44))
                | (go_loud (refine step_append_lags V.heap.size (.slice (some ⟨V.heap.size, 0, none⟩) 0 0) (.slice (some ⟨g, 0, none⟩) j cp) [] (l.take j) (by rfl) (.tmp 40) (.tmp 43) (by rfl) (by rfl) (by rfl) (pre_B V _ (q : Int) sc).1 (HSRC.out _ (pre_B V _ (q : Int) sc).2).1 HTL.out.2.1 (pre_B V _ (q : Int) sc).2.size ?_; intro v44 w44 ho44 hg44; have hb44 := grown_below (pre_B V _ (q : Int) sc).1 (pre_B V _ (q : Int) sc).2 hg44; have hx44 := (xat_B V _ (q : Int) sc).next hg44 (Nat.succ_ne_self _); obtain ⟨c0, c1⟩ := HCH.out _ hb44; have cA0 : ∀ o, (w44.alloc o).cell? ⟨H, 0, none⟩ = some (.int .i64 (q : Int)) := (fun o => (HCH.out _ (hb44.alloc hb44.size o)).1); have cA1 : ∀ o, (w44.alloc o).cell? ⟨H, 1, none⟩ = some (.int .i64 sc) := (fun o => (HCH.out _ (hb44.alloc hb44.size o)).2); clear hg44))
                | (go_loud (refine step_append_lags V.heap.size (.slice (some ⟨V.heap.size + 1, 0, none⟩) 0 0) (.slice (some ⟨g, 0, none⟩) j cp) [] (l.take j) (by rfl) (.tmp 40) (.tmp 43) (by rfl) (by rfl) (by rfl) (pre_C V _ (q : Int) sc).1 (HSRC.out _ (pre_C V _ (q : Int) sc).2).1 HTL.out.2.1 (pre_C V _ (q : Int) sc).2.size ?_; intro v44 w44 ho44 hg44; have hb44 := grown_below (pre_C V _ (q : Int) sc).1 (pre_C V _ (q : Int) sc).2 hg44; have hx44 := (xat_C V _ (q : Int) sc).next hg44 (Nat.ne_of_lt (Nat.lt_succ_self _)); obtain ⟨c0, c1⟩ := HCH.out _ hb44; have cA0 : ∀ o, (w44.alloc o).cell? ⟨H, 0, none⟩ = some (.int .i64 (q : Int)) := (fun o => (HCH.out _ (hb44.alloc hb44.size o)).1); have cA1 : ∀ o, (w44.alloc o).cell? ⟨H, 1, none⟩ = some (.int .i64 sc) := (fun o => (HCH.out _ (hb44.alloc hb44.size o)).2); clear hg44))
                | (go_loud (refine step_append_lags V.heap.size v44 (.slice (some ⟨w44.heap.size, 0, none⟩) 1 1) ([] ++ l.take j) [((q : Int), sc)] (by rfl) (.tmp 44) (.tmp 46) (by rfl) (by rfl) (by rfl) (ho44.keep ((Below.refl _ _).alloc (Nat.le_refl _) _)) (xat_new w44 (q : Int) sc).src HTL.out.2.2.1 (hb44.alloc hb44.size _).size ?_; intro v47 w47 ho47 hg47; have hb47 := grown_below (ho44.keep ((Below.refl _ _).alloc (Nat.le_refl _) _)) (hb44.alloc hb44.size _) hg47; obtain ⟨d0, d1⟩ := HCH.out _ hb47; clear hg47 ho44 hb44 c0 c1 cA0 cA1))
                | (go_loud (refine step_append_lags V.heap.size v44 _ ([] ++ l.take j) [((q : Int), sc)] (by rfl) (.tmp 44) (.tmp 46) (by rfl) (by rfl) (by rfl) ho44 hx44.src HTL.out.2.2.1 hb44.size ?_; intro v47 w47 ho47 hg47; have hb47 := grown_below ho44 hb44 hg47; obtain ⟨d0, d1⟩ := HCH.out _ hb47; clear hg47 ho44 hb44 c0 c1 cA0 cA1 hx44))
                | (go_loud (refine step_append_lags V.heap.size v47 (.slice (if cp = j then some ⟨g, 0, none⟩ else some ⟨g, j * 2, none⟩) 0 (cp - j)) (([] ++ l.take j) ++ [((q : Int), sc)]) (l.drop j) (by rfl) (.tmp 47) (.tmp 50) (by rfl) (by rfl) (by rfl) ho47 ((HSRC.out _ hb47).2 _ _ (Nat.sub_self j).symm) HTL.out.2.2.2 hb47.size ?_; intro v51 w51 ho51 hg51; have hb51 := grown_below ho47 hb47 hg51; obtain ⟨d0, d1⟩ := HCH.out _ hb51; obtain ⟨g51, cp51, rfl, hcp51⟩ := ho51.pos HTL.out.1; have HO : Hid (RRow V.heap.size w51 (.slice (some ⟨g51, 0, none⟩) (j + 1) cp51) (insD keyL ((q : Int), sc) l) ∧ Below V.heap.size V w51) := ⟨(by rw [← HEQ.out]; exact ho51), hb51⟩; clear hg51 ho47 hb47 ho51 hb51)))
              clear hd hw0 hw1 hv0 hv1
              all_goals
                have hmb0 : j ≤ b := by have := HQ.out; have := HM.out; omega
                by_cases hmb : j < b
                · have HT : Hid (topL zs a b (k + 1) = insD keyL ((q : Int), sc) l) := by
                    show _ = _
                    rw [HNX.out, List.take_of_length_le (by rw [HIL.out, HM.out]; omega)]
                  have hcmp : ((b : Int) < (j : Int) + 1) = False := eq_false (by omega)
                  go_wp2
                  go_roundw
                  case rel => exact ⟨k + 1, by have := HQ.out; omega, by rw [← Nat.add_assoc, HQ.out.1]; first | rw [HW1.out] | go_num, by rw [HT.out]; exact HO.out.1.lower HVW.out.2, HVW.out.1.trans (HO.out.2.mono HVW.out.2)⟩
                  case measure =>
                    have := HQ.out
                    first
                      | (rw [HW1.out]; simp [intOf]; omega)
                      | (simp [intOf]; omega)
                · have HT : Hid (j + 1 = b + 1 ∧ b ≤ cp51) := by
                    show _ ∧ _
                    omega
                  have hcmp : ((b : Int) < (j : Int) + 1) = True := eq_true (by omega)
                  have hbm : b ≤ j + 1 := by omega
                  have hbc : b ≤ cp51 := by omega
                  have hbmI : (b : Int) ≤ (j : Int) + 1 := by omega
                  have hbcI : (b : Int) ≤ (cp51 : Int) := by omega
                  go_wp2
                  go_roundw
                  case rel => exact ⟨k + 1, by have := HQ.out; omega, by rw [← Nat.add_assoc, HQ.out.1]; first | rw [HW1.out] | go_num, by rw [HNX.out]; exact (HO.out.1.take (by rw [HIL.out, HM.out]) (by have := HT.out; omega)).lower HVW.out.2, HVW.out.1.trans (HO.out.2.mono HVW.out.2)⟩
                  case measure =>
                    have := HQ.out
                    first
                      | (rw [HW1.out]; simp [intOf]; omega)
                      | (simp [intOf]; omega)
    · obtain rfl : k = d + 1 := by omega
      have HE : Hid (RRow w.heap.size wr _ (topL zs a b (d + 1)) ∧ Below w.heap.size w wr) := HH.out
      clear HH
      go_wp2
      go_ret
      exact ⟨_, rfl, HE.out⟩

end Pit
end Go.Proofs.Ytamiokleolfnoaa
