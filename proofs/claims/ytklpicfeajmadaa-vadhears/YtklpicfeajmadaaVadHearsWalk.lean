/- The law VadHears answers true: loudness, floors, answers are the document's, frame by frame and all at once. -/
import Derived.Test.YtklpicfeajmadaaVadH
import Derived.Deep.RegionHeld3
namespace Go.Proofs.Ytklpicfeajmadaa
open Go.RowKit Vad

theorem size_up (w : World) (o : Obj) : w.heap.size ≤ (w.alloc o).drew.heap.size := ((Below.refl w.heap.size w).alloc (Nat.le_refl _) o).size

set_option maxRecDepth 100000 in
set_option maxHeartbeats 3200000 in
theorem vadHears.walk (x : Option Addr) (n cap : Nat) (vs : Nat → RowV) (w : World) (hq : GridIn w x n cap vs) :
    Calls Try.prog 4 #[.slice x n cap] w fun e w' => e = .returned (.bool true) ∧ Below w.heap.size w w' := by
  obtain ⟨hz, ⟨hm1, hm⟩, _⟩ := Grid.of_in hq
  clear hq
  have HZ : Hid (∀ W, Below w.heap.size w W → Grid W x n vs) := fun W hW => hz.keep hW
  have HL : Hid (n ≤ cap ∧ cap ≤ maxLen) := ⟨hm1, hm⟩
  have hm2 : (n : Int) ≤ 9223372036854775807 := by simp only [maxLen] at hm; omega
  have hb := Below.refl w.heap.size w
  clear hz hm hm1
  by_cases hg : n ≤ 60
  · have hnI : (n : Int) ≤ 60 := by omega
    go_enter Try.func4, Try.ntmps4
    go_wp2_with (first
      | (go_at_call 7; go_loud (refine (awake_any w).mono ?_; rintro e w1 ⟨rfl, hb1⟩; replace hb := hb.trans (hb1.mono hb.size); clear hb1))
      | (go_at_call 9; go_loud (refine (pNew _).mono ?_; rintro e w2 ⟨p, rfl, hp, hM, hb2⟩; have HP1 : Hid (w.heap.size ≤ p ∧ p < w2.heap.size) := ⟨Nat.le_trans hb.size hp, hM.lt⟩; replace hb := hb.trans (hb2.mono hb.size); have HB : Hid (Below w.heap.size w w2 ∧ Mt p ⟨-1, 0⟩ w2) := ⟨hb, hM⟩; clear hb2 hp hM hb)))
    obtain ⟨r, hr⟩ : ∃ r, w2.heap.size = r := ⟨_, rfl⟩
    have HR : Hid (w2.heap.size = r) := hr
    have HP0 : Hid (HP w (r + 1) p r) := ⟨HP1.out.1, by rw [← hr]; exact HB.out.1.size, by have := HP1.out.2; omega, Nat.lt_succ_self _, by have := HP1.out.2; omega⟩
    have H0 : Hid (HS w (w2.alloc (.cells #[.int .i64 (-1), .int .i64 0] 31)) (r + 1) p r ⟨-1, 0⟩ ⟨-1, 0⟩ (.slice none 0 0) 0 []) := by
      subst hr
      exact ⟨World.ownsRow_nil _ _ _ _, HB.out.1.alloc HB.out.1.size _, by rw [World.size_alloc]; exact Nat.le_refl _, HB.out.2.keep ((Below.refl _ _).alloc (Nat.le_refl _) _), rmt_new⟩
    rw [hr]
    clear hr HB
    go_loopw [5, 6] (fun v i W => ∃ k : Nat, k ≤ n ∧ i = .int .i64 k ∧ Hid (HS w W (r + 1) p r ((⟨-1, 0⟩ : MeterI).run (lvlsG vs k)) ((⟨-1, 0⟩ : MeterI).run (lvlsG vs k)) v k ((⟨-1, 0⟩ : MeterI).tells (lvlsG vs k)))) (fun _ i _ => n - (intOf i).toNat)
    case atStart => exact ⟨0, Nat.zero_le _, rfl, H0.out⟩
    case round =>
      obtain ⟨k, hk, rfl, HH⟩ := hrel
      by_cases hkn : k < n
      · have hbW := HH.out.low
        obtain ⟨b, off, rfl, _, hcx⟩ := (HZ.out _ hbW).at_ (by omega)
        have hck := hcx k hkn
        have hkI : (k : Int) < (n : Int) := by omega
        have HCK : Hid (∀ W, Below w.heap.size w W → W.cell? ⟨b, off + k, none⟩ = some (.slice (vs k).a (vs k).len (vs k).cap) ∧ Zs W (vs k).a (vs k).len (vs k).zs) := fun W hW => by
          obtain ⟨b', off', e, _, hcx'⟩ := (HZ.out _ hW).at_ (by omega)
          cases e
          exact ⟨hcx' k hkn, ((HZ.out _ hW).row k hkn).1⟩
        obtain ⟨_, hl1, hl2⟩ := (HZ.out _ hbW).row k hkn
        have HNIL : Hid ((vs k).a = none → (vs k).cap = 0) := (HZ.out _ hbW).nil k hkn
        have HCAP : Hid ((vs k).len ≤ (vs k).cap ∧ (vs k).cap ≤ maxLen) := ⟨hl1, hl2⟩
        have HOKM : Hid ((⟨-1, 0⟩ : MeterI).run (lvlsG vs k)).Ok := run_ok vs ok_one k
        have HRUN : Hid ((⟨-1, 0⟩ : MeterI).run (lvlsG vs (k + 1)) = ((⟨-1, 0⟩ : MeterI).run (lvlsG vs k)).next (levelI (vs k).zs)) := run_snoc _ _ _
        have HTELL : Hid ((⟨-1, 0⟩ : MeterI).tells (lvlsG vs (k + 1)) = (⟨-1, 0⟩ : MeterI).tells (lvlsG vs k) ++ [((⟨-1, 0⟩ : MeterI).run (lvlsG vs k)).told (levelI (vs k).zs)]) := tells_snoc _ _ _
        generalize (⟨-1, 0⟩ : MeterI).run (lvlsG vs k) = m at *
        generalize (⟨-1, 0⟩ : MeterI).tells (lvlsG vs k) = bs at *
        generalize vs k = q at *
        obtain ⟨qa, qn, qc, qz⟩ := q
        simp only at hck hl1 hl2 HCK HNIL HCAP HRUN HTELL
        by_cases hlen : 1000 < qn
        · have hlI : (1000 : Int) < (qn : Int) := by omega
          have HLOW : Hid (Below w.heap.size w wr) := hbW
          have hd : decide ((1000 : Int) < (qn : Int)) = true := decide_eq_true hlI
          clear hbW hcx hl1 hl2
          go_wp2
          go_quiet (fail)
          go_wp2
          go_ret
          exact ⟨rfl, below_drewN HLOW.out _⟩
        · have hlI : ((1000 : Int) < (qn : Int)) = False := eq_false (by omega)
          have hqn : qn ≤ 1000 := by omega
          have HLV : Hid (∀ W, Below w.heap.size w W → Calls Try.prog 8 #[.slice qa qn qc] W fun e w' => e = .returned (.int .i64 (levelI qz)) ∧ ∃ k, w' = W.drewN k) := fun W hW => pLevel _ _ _ _ _ (HCK.out W hW).2 HCAP.out.1 HCAP.out.2
          have HLR : Hid (∀ W, Below w.heap.size w W → Calls Try.prog 11 #[.slice qa qn qc] W fun e w' => e = .returned (.int .i64 (levelI qz)) ∧ w' = W) := fun W hW => rLevel_any _ _ _ _ _ (HCK.out W hW).2 HCAP.out.1 HCAP.out.2
          have HHD : Hid (∀ d, HS w (wr.drewN d) (r + 1) p r m m _ k bs) := fun d => HH.out.drewN d
          have HRS : Hid (∀ W v0, HS w W (r + 1) p r m m v0 k bs → Calls Try.prog 12 #[.pointer (some ⟨r, 0, none⟩), .slice qa qn qc] W fun e w' => e = .returned (.bool (m.told (levelI qz))) ∧ Hid (HS w w' (r + 1) p r m (m.next (levelI qz)) v0 k bs)) := fun W v0 h =>
            (rStep_any r m qa qn qc qz W h.rm HOKM.out (HCK.out W h.low).2 HCAP.out.1 HCAP.out.2).mono (fun e w' ⟨h1, h2, h3⟩ => ⟨h1, h.ref HP0.out h3 h2⟩)
          have HPS : Hid (∀ W a c v0 bs0, Zs W a qn qz → qn ≤ c → c ≤ maxLen → HS w W (r + 1) p r m (m.next (levelI qz)) v0 (k + 1) bs0 → Calls Try.prog 13 #[.pointer (some ⟨p, 0, none⟩), .slice a qn c] W fun e w' => e = .returned (.bool (m.told (levelI qz))) ∧ Hid (HS w w' (r + 1) p r (m.next (levelI qz)) (m.next (levelI qz)) v0 (k + 1) bs0)) := fun W a c v0 bs0 h1 h2 h3 h =>
            (pStep p m a qn c qz W h.mt HOKM.out h1 h2 h3).mono (fun e w' ⟨g1, g2, g3⟩ => ⟨g1, h.prog HP0.out g3 g2⟩)
          have hlv0 := levelI_in qz
          generalize levelI qz = lv at *
          generalize m.told lv = t at *
          generalize m.next lv = m2 at *
          have HPF : Hid (∀ W, Mt p m2 W → Calls Try.prog 14 #[.pointer (some ⟨p, 0, none⟩)] W fun e w' => e = .returned (.int .i64 m2.floor) ∧ w' = W) := fun W h => pFloor p _ W h
          have HRF : Hid (∀ W, RMt r m2 W → W.cell? ⟨r, 0, none⟩ = some (.int .i64 m2.floor)) := fun W h => h.fields.1
          generalize m2.floor = f at *
          have HLOW : Hid (Below w.heap.size w wr) := hbW
          have hd : decide ((1000 : Int) < (qn : Int)) = false := decide_eq_false (by omega)
          clear hbW hcx hl1 hl2 HH hlv0
          go_wp2
          go_quiet (first
            | (go_at_call 8; go_loud (exact Calls.quiet_of (HLV.out _ (below_drewN HLOW.out _))))
            | (go_at_call 11; go_loud (exact Calls.quiet_of_same (HLR.out _ (below_drewN HLOW.out _)))))
          have hckD : ∀ d, (wr.drewN d).cell? ⟨b, off + k, none⟩ = some (.slice qa qn qc) := fun d => (HCK.out _ (below_drewN HLOW.out d)).1
          go_wp2_with (first
            | (go_at_call 12; go_loud (refine (HRS.out _ _ (HHD.out _)).mono ?_; rintro e w3 ⟨rfl, HH3⟩))
            | (at_builtin; go_loud (refine wpList_append_bool (r + 1) _ k bs t HH3.out.own (by omega) HH3.out.size rfl _ _ rfl rfl rfl ?_; intro v4 w4 ho4 hb4; have HH4 : Hid (HS w w4 (r + 1) p r m m2 v4 (k + 1) (bs ++ [t])) := HH3.out.push HP0.out hb4 ho4; clear ho4 hb4)))
          have hck4 := (HCK.out _ HH4.out.low).1
          have hf4 := HRF.out _ HH4.out.rm
          have HFIN : Hid (∀ W, HS w W (r + 1) p r m2 m2 v4 (k + 1) (bs ++ [t]) → HS w W (r + 1) p r ((⟨-1, 0⟩ : MeterI).run (lvlsG vs (k + 1))) ((⟨-1, 0⟩ : MeterI).run (lvlsG vs (k + 1))) v4 (k + 1) ((⟨-1, 0⟩ : MeterI).tells (lvlsG vs (k + 1)))) := fun W h => by
            rw [HRUN.out, HTELL.out]
            exact h
          have HKN : Hid (k + 1 ≤ n ∧ qn ≤ 100000) := ⟨hkn, by omega⟩
          clear HRUN HTELL HHD HLV HLR HRS hckD
          cases t
          all_goals
            go_region_held3 (fun W => W.cell? ⟨b, off + k, none⟩ = some (.slice qa qn qc) ∧ W.cell? ⟨r, 0, none⟩ = some (.int .i64 f)) (first | (exact ⟨by assumption, by assumption⟩) | go_keep) (first
              | (refine step_copy_64 (W := (w4.alloc (.cells #[] 2)).drew) w4.heap.size w4.heap.size qa qn qc qz ((HCK.out _ HH4.out.low).2.alloc _).drew HNIL.out HKN.out.2 (World.ownsRow_made w4 #[] 0 (Nat.le_refl _) (by decide) rfl) (size_up w4 _) (by rfl) (.tmp 58) (.tmp 62) (by rfl) (by rfl) (by rfl) ?_; intro r5 c5 w5 hz5 hc5 hm5 hb5; have HH5 := HH4.out.keep ((((Below.refl _ _).alloc (Nat.le_refl _) (.cells #[] 2)).drew).trans hb5); have hck5 := (HCK.out _ HH5.low).1; have hf5 := HRF.out _ HH5.rm; clear hb5)
              | (go_at_call 13; refine (HPS.out _ _ _ _ _ hz5 hc5 hm5 HH5).mono ?_; rintro e w6 ⟨rfl, HH6⟩; have hck6 := (HCK.out _ HH6.out.low).1; have hf6 := HRF.out _ HH6.out.rm)
              | (go_at_call 14; refine (HPF.out _ HH6.out.mt).mono ?_; rintro e w7 ⟨rfl, hw7⟩; subst hw7))
            go_wp2
            go_roundw
            case rel => exact ⟨k + 1, HKN.out.1, by go_num, by first | exact HFIN.out _ HH6.out | exact HFIN.out _ HH6.out.drew | exact HFIN.out _ (HH6.out.drewN _)⟩
            case measure => simp [intOf]; omega
      · obtain rfl : k = n := by omega
        obtain ⟨a9, c9, rfl, hB9⟩ := Bs.of_owned HH.out.own
        have hbW := HH.out.low
        have hG := HZ.out _ hbW
        have HLW : Hid (Below w.heap.size w wr) := hbW
        have HBS : Hid (∀ W, Below wr.heap.size wr W → Bs W a9 k ((⟨-1, 0⟩ : MeterI).tells (lvlsG vs k))) := fun W hW => hB9.keep hW
        have HE : Hid (∀ p2 W, wr.heap.size ≤ p2 → Below wr.heap.size wr W → Mt p2 ⟨-1, 0⟩ W → Calls Try.prog 10 #[.pointer (some ⟨p2, 0, none⟩), .slice x k cap] W fun e w' => ∃ a' c', e = .returned (.slice a' k c') ∧ Bs w' a' k ((⟨-1, 0⟩ : MeterI).tells (lvlsG vs k)) ∧ Below wr.heap.size wr w') := fun p2 W hp2 hW hM2 =>
          (pEach p2 ⟨-1, 0⟩ x k cap vs W hM2 ok_one (hG.keep hW) (by omega) (fun h0 y hy => by
              obtain ⟨b, off, e, hl, _⟩ := hG.at_ h0
              rw [hy] at e
              cases e
              show b ≠ p2
              omega) (fun i hi h0 y hy => by
              obtain ⟨b, off, e, hl, _⟩ := (hG.row i hi).1.at_ h0
              rw [hy] at e
              cases e
              show b ≠ p2
              omega)).mono (fun e w' ⟨a', c', h1, h2, h3⟩ => ⟨a', c', h1, h2, hW.trans (h3.below hp2 hW.size)⟩)
        generalize (⟨-1, 0⟩ : MeterI).tells (lvlsG vs k) = bs at *
        clear HH hbW hG hB9 hk hkn
        go_wp2_with (first
          | (go_at_call 9; go_loud (refine (pNew _).mono ?_; rintro e w8 ⟨p2, rfl, hp2, hM2, hb8⟩))
          | (go_at_call 10; go_loud (refine (HE.out p2 _ hp2 hb8 hM2).mono ?_; rintro e w9 ⟨a2, c2, rfl, hB2, hb9⟩; have HB2 : Hid (Bs w9 a2 k bs ∧ Bs w9 a9 k bs) := ⟨hB2, HBS.out _ hb9⟩; have HB9 : Hid (Below w.heap.size w w9) := HLW.out.trans (hb9.mono HLW.out.size); clear hB2 hb9 hp2 hM2 hb8)))
        clear HE HBS HLW
        go_loopw [9] (fun i W => (∃ d, W = w9.drewN d) ∧ ∃ j : Nat, j ≤ k ∧ i = .int .i64 j) (fun i _ => k - (intOf i).toNat)
        case atStart => exact ⟨⟨0, rfl⟩, 0, Nat.zero_le _, rfl⟩
        case round =>
          obtain ⟨⟨d, rfl⟩, j, hj, rfl⟩ := hrel
          by_cases hjk : j < k
          · obtain ⟨b2, o2, rfl, _, hc2⟩ := HB2.out.1.at_ (by omega)
            obtain ⟨b3, o3, rfl, _, hc3⟩ := HB2.out.2.at_ (by omega)
            have hcj2 : ∀ d, (w9.drewN d).cell? ⟨b2, o2 + j, none⟩ = some (.bool (bs[j]?.getD false)) := fun d => hc2 j hjk
            have hcj3 : ∀ d, (w9.drewN d).cell? ⟨b3, o3 + j, none⟩ = some (.bool (bs[j]?.getD false)) := fun d => hc3 j hjk
            have hjI : (j : Int) < (k : Int) := by omega
            clear hc2 hc3
            generalize bs[j]?.getD false = y at hcj2 hcj3
            cases y
            all_goals
              go_wp2
              go_quiet (fail)
              go_wp2
              go_roundw
              case rel => exact ⟨⟨_, rfl⟩, j + 1, by omega, by go_num⟩
              case measure => simp [intOf]; omega
          · obtain rfl : j = k := by omega
            go_wp2
            go_ret
            exact ⟨rfl, below_drewN HB9.out _⟩
  · go_enter Try.func4, Try.ntmps4
    go_wp2_with (go_at_call 7; go_loud (refine (awake_any w).mono ?_; rintro e w1 ⟨rfl, hb1⟩; replace hb := hb.trans (hb1.mono hb.size); clear hb1))
    all_goals first | (exfalso; omega) | (go_ret; exact ⟨rfl, hb⟩)

end Go.Proofs.Ytklpicfeajmadaa
