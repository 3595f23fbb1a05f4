/- The law LevinAuto answers true: a sound is most like itself now. -/
import Derived.Test.YtjaccokmficfdaaLevJ
import Derived.Test.YtjaccokmficfdaaActs
import Derived.Deep.RegionHeld3
namespace Go.Proofs.Ytjaccokmficfdaa
open Go.RowKit Lev

set_option maxRecDepth 100000 in
set_option maxHeartbeats 3200000 in
theorem levinAuto.walk (x : Option Addr) (n cap : Nat) (zq : List Int) (o : Int) (w : World) (hq : IsRow .i64 w x n cap zq) (_ : (Lit.int .i64 o).wf = true) :
    Calls Try.prog 8 #[.slice x n cap, .int .i64 o] w fun e w' => e = .returned (.bool true) ∧ Below w.heap.size w w' := by
  obtain ⟨hz, hm, _⟩ := Zs.of_isRow hq
  have HCAP : Hid (n ≤ cap) := cap_of_isRow hq
  clear hq
  generalize zq.take n = zs at hz
  have HZ : Hid (∀ W, Below w.heap.size w W → Zs W x n zs) := fun W hW => hz.keep hW
  have HL : Hid (zs.length = n ∧ n ≤ maxLen) := ⟨hz.len, hm⟩
  have hb := Below.refl w.heap.size w
  clear hz hm
  by_cases hg : n ≤ 960 ∧ 1 ≤ o ∧ o ≤ 32
  · obtain ⟨hn, ho1, ho2⟩ := hg
    obtain ⟨O, rfl⟩ : ∃ O : Nat, o = (O : Int) := ⟨o.toNat, by omega⟩
    have HN : Hid (n ≤ 960 ∧ 1 ≤ O ∧ O ≤ 32) := ⟨hn, by omega, by omega⟩
    have hnI : (n : Int) ≤ 960 := by omega
    clear hn
    go_enter Try.func8, Try.ntmps8
    go_wp2_with (first
      | (go_at_call 9; go_loud (refine (awake_any w).mono ?_; rintro e w1 ⟨rfl, hb1⟩; replace hb := hb.trans (hb1.mono hb.size); clear hb1))
      | (go_at_call 10; go_loud (refine (pAuto_yes x n cap O zs _ (HZ.out _ hb) HN.out.1 HN.out.2.1 HN.out.2.2).mono ?_; rintro e w2 ⟨a2, c2, rfl, hr2, hb2⟩; obtain ⟨g, rfl, hgl, hgr⟩ := hr2.some_of (by rw [autoL_len]; exact Nat.succ_pos _); have HB2 : Hid (Below w.heap.size w w2) := hb.trans (hb2.mono hb.size); have HR : Hid (∀ W, Below w2.heap.size w2 W → ∀ k, k < O + 1 → W.cell? ⟨g, k, none⟩ = some (.int .i64 (autoI zs k))) := (fun W hW k hk => (by have h := (hr2.keep hW).cellAt (i := k) (by rw [autoL_len]; exact hk); rw [autoL_at (by omega)] at h; exact h)); clear hr2 hb2 hgl hgr hb)))
    have HM : Hid (∀ k, autoI zs k ≤ autoI zs 0 ∧ -autoI zs k ≤ autoI zs 0 ∧ 0 ≤ autoI zs 0) := auto_most zs
    have HI : Hid (∀ k, -1030792151040 ≤ autoI zs k ∧ autoI zs k ≤ 1030792151040) := autoI_in (by rw [HL.out.1]; exact HN.out.1)
    have HP : Hid ((∀ i, i < n → -32768 ≤ zs[i]?.getD 0 ∧ zs[i]?.getD 0 ≤ 32767) → powI zs = autoI zs 0) := fun h => pow_auto (fun i => by
      rcases Nat.lt_or_ge i n with h1 | h1
      · exact h i h1
      · rw [List.getElem?_eq_none (by rw [HL.out.1]; exact h1)]
        exact ⟨by decide, by decide⟩) (by rw [HL.out.1]; exact HN.out.1)
    generalize autoI zs = A at *
    have hOI : (O : Int) ≤ 32 := ho2
    go_loopw [7] (fun y W => (∃ d, W = w2.drewN d) ∧ ∃ k : Nat, 1 ≤ k ∧ k ≤ O + 1 ∧ y = .int .i64 k) (fun y _ => O + 1 - (intOf y).toNat)
    case atStart => exact ⟨⟨0, rfl⟩, 1, Nat.le_refl _, by have := HN.out; omega, rfl⟩
    case round =>
      obtain ⟨⟨d, rfl⟩, k, hk1, hk, rfl⟩ := hrel
      by_cases hkO : k < O + 1
      · have hc0 := HR.out w2 (Below.refl _ _) 0 (Nat.succ_pos O)
        have hck := HR.out w2 (Below.refl _ _) k hkO
        obtain ⟨hm1, hm2, _⟩ := HM.out k
        have hi := HI.out k
        generalize A k = zk at *
        generalize A 0 = z0 at *
        have hd1 : decide (z0 < zk) = false := decide_eq_false (by omega)
        have hd2 : decide (z0 < -zk) = false := decide_eq_false (by omega)
        have hwz1 : wrap64 (-zk) = -zk := i64_wrap (by omega) (by omega)
        have hwz2 : IntKind.i64.wrap (-zk) = -zk := i64k_wrap (by omega) (by omega)
        have hkI : (k : Int) < (O : Int) + 1 := by omega
        have hO0 : (0 : Int) < (O : Int) + 1 := by omega
        clear hm1 hm2 hi
        go_wp2
        go_quiet (fail)
        go_wp2
        go_roundw
        case rel => exact ⟨⟨_, rfl⟩, k + 1, by omega, by omega, by go_num⟩
        case measure => simp [intOf]; omega
      · clear hk hk1
        have HBD : Hid (∀ W, Below w2.heap.size w2 W → W.cell? ⟨g, 0, none⟩ = some (.int .i64 (A 0))) := fun W hW => HR.out W hW 0 (Nat.succ_pos O)
        have h00 := (HM.out 0).2.2
        generalize A 0 = z0 at *
        have hO0 : (0 : Int) < (O : Int) + 1 := by omega
        go_wp2
        go_loopw [8] (fun y W => W = w2.drewN d ∧ ∃ k : Nat, k ≤ n ∧ y = .int .i64 k ∧ Hid (∀ i, i < k → -32768 ≤ zs[i]?.getD 0 ∧ zs[i]?.getD 0 ≤ 32767)) (fun y _ => n - (intOf y).toNat)
        case atStart => exact ⟨rfl, 0, Nat.zero_le _, rfl, fun i hi => absurd hi (Nat.not_lt_zero _)⟩
        case round =>
          obtain ⟨rfl, k, hk, rfl, HK⟩ := hrel
          have hc0 : w2.cell? ⟨g, 0, none⟩ = some (.int .i64 z0) := HBD.out w2 (Below.refl _ _)
          by_cases hkn : k < n
          · obtain ⟨b, off, rfl, _, hcx⟩ := (HZ.out _ HB2.out).at_ (by omega)
            have hck := hcx k hkn
            have HKS : Hid (-32768 ≤ zs[k]?.getD 0 → zs[k]?.getD 0 ≤ 32767 → ∀ i, i < k + 1 → -32768 ≤ zs[i]?.getD 0 ∧ zs[i]?.getD 0 ≤ 32767) := fun h1 h2 i hi => by
              rcases Nat.lt_or_ge i k with h | h
              · exact HK.out i h
              · obtain rfl : i = k := by omega
                exact ⟨h1, h2⟩
            generalize zs[k]?.getD 0 = z at hck HKS
            have hknI : (k : Int) < (n : Int) := by omega
            clear HK hcx
            by_cases h1 : z < -32768
            · go_wp2
              go_ret
              exact ⟨rfl, below_drewN HB2.out _⟩
            · by_cases h2 : 32767 < z
              · go_wp2
                go_ret
                exact ⟨rfl, below_drewN HB2.out _⟩
              · have HK2 := HKS.out (by omega) (by omega)
                have HK2 : Hid (∀ i, i < k + 1 → -32768 ≤ zs[i]?.getD 0 ∧ zs[i]?.getD 0 ≤ 32767) := HK2
                clear HKS
                go_wp2
                go_roundw
                case rel => exact ⟨trivial, k + 1, by omega, by go_num, HK2⟩
                case measure => simp [intOf]; omega
          · have hkn2 : n = k := by omega
            subst hkn2
            have HPE : Hid (powI zs = z0) := HP.out HK.out
            have HX7 : Hid (∀ W, Below w2.heap.size w2 W → Zs W x n zs) := fun W hW => HZ.out _ (HB2.out.trans (hW.mono HB2.out.size))
            clear HK HP hk hkn
            go_wp2
            go_region_held3 (fun W => W.cell? ⟨g, 0, none⟩ = some (.int .i64 z0)) (assumption) (first
              | (go_at_call 15; go_loud (refine (pPower x n cap zs _ (HX7.out _ (by first | exact (below_drewN (Below.refl _ _) _) | exact (below_drewN (Below.refl _ _) _).drew)) HL.out.2 HCAP.out).mono ?_; rw [HPE.out]; rintro e w8 ⟨rfl, hb8⟩; have hb9 : Below w2.heap.size w2 w8 := (below_drewN (Below.refl w2.heap.size w2) (d + 1)).trans hb8; have hc0 := HBD.out w8 hb9)))
            all_goals
              go_wp2
              go_ret
              exact ⟨rfl, HB2.out.trans (hb9.mono HB2.out.size)⟩
  · have HG : Hid (¬ (n ≤ 960 ∧ 1 ≤ o ∧ o ≤ 32)) := hg
    clear hg
    go_enter Try.func8, Try.ntmps8
    go_wp2_with (first
      | (go_at_call 9; go_loud (refine (awake_any w).mono ?_; rintro e w1 ⟨rfl, hb1⟩; replace hb := hb.trans (hb1.mono hb.size); clear hb1))
      | (go_at_call 10; go_loud (refine (pAuto_no x n cap o zs _ (HZ.out _ hb) HL.out.2 HG.out).mono ?_; rintro e w2 ⟨rfl, hb2⟩; replace hb := hb.trans (hb2.mono hb.size); clear hb2)))
    go_ret
    exact ⟨rfl, hb⟩

end Go.Proofs.Ytjaccokmficfdaa
