/- container/heap over package pitch's lags: down, Push, Pop. -/
import Derived.Test.YtamiokleolfnoaaPitchB
namespace Go.Proofs.Ytamiokleolfnoaa
namespace Pit
open Go.RowKit

theorem downF_end {f i n : Nat} {e : Nat → LagS} (h : n ≤ 2 * i + 1) : downF keyL f e i n = (e, i) := by
  cases f with
  | zero => rfl
  | succ f => unfold downF; rw [if_pos h]
theorem downF_step {f i n c : Nat} {e : Nat → LagS} (h : ¬ n ≤ 2 * i + 1) (hc : childF keyL e i n = c) : downF keyL (f + 1) e i n = if keyL (e c) < keyL (e i) then downF keyL f (swapF e i c) c n else (e, i) := by
  subst hc
  show (if n ≤ 2 * i + 1 then (e, i) else if keyL (e (childF keyL e i n)) < keyL (e i) then downF keyL f (swapF e i (childF keyL e i n)) (childF keyL e i n) n else (e, i)) = _
  rw [if_neg h]

set_option maxRecDepth 100000 in
set_option maxHeartbeats 1600000 in
theorem down_g {B p n g cap : Nat} {e : Nat → LagS} {w : World} (h : HpV B p n (.slice (some ⟨g, 0, none⟩) n cap) e w) (hl : Pl n e) (m : Nat) (hm : m ≤ n) (hn : n ≤ 1000) :
    Calls Try.prog 24 #[.iface 40 (.pointer (some ⟨p, 0, none⟩)), .int .i64 0, .int .i64 m] w fun e' w' => (∃ b, e' = .returned (.bool b)) ∧ HpV B p n (.slice (some ⟨g, 0, none⟩) n cap) (downF keyL m e 0 m).1 w' ∧ Off2 p g w w' ∧ Below B w w' := by
  have HN : Hid (n ≤ 1000 ∧ m ≤ n) := ⟨hn, hm⟩
  clear hn hm
  go_enter Try.func24, Try.ntmps24
  go_wp2
  go_loopw [7] (fun x W => ∃ (i : Nat) (f : Nat) (e1 : Nat → LagS), i ≤ m ∧ m ≤ i + f ∧ x = .int .i64 i ∧ HpV B p n (.slice (some ⟨g, 0, none⟩) n cap) e1 W ∧ Pl n e1 ∧ (Off2 p g w W ∧ Below B w W) ∧ Hid (downF keyL f e1 i m = downF keyL m e 0 m)) (fun x _ => m - (intOf x).toNat)
  case atStart => exact ⟨0, m, e, Nat.zero_le _, by omega, rfl, h, hl, ⟨Off2.refl _ _ _, Below.refl _ _⟩, rfl⟩
  case round =>
    clear h hl
    obtain ⟨i, f, e1, hi, hif, rfl, hh, hp, hb, HE⟩ := hrel
    obtain ⟨a, ha⟩ : ∃ a, 2 * i + 1 = a := ⟨_, rfl⟩
    obtain ⟨b, hb2⟩ : ∃ b, a + 1 = b := ⟨_, rfl⟩
    have hb0 := HN.out
    have hj1 : wrap64 (wrap64 (2 * (i : Int)) + 1) = (a : Int) := by
      rw [wrap_n (z := 2 * (i : Int)) (by omega) (by omega), show 2 * (i : Int) + 1 = a by omega]
      exact wrap_n (by omega) (by omega)
    have hj2 : wrap64 ((a : Int) + 1) = (b : Int) := by rw [show (a : Int) + 1 = b by omega]; exact wrap_n (by omega) (by omega)
    have hj3 : ((a : Int) < 0) = False := eq_false (by omega)
    clear hb0
    by_cases hend : m ≤ a
    · have HD := (downF_end (f := f) (e := e1) (show m ≤ 2 * i + 1 by omega))
      have HX : Hid ((downF keyL m e 0 m).1 = e1) := by show _ = _; rw [← HE.out, HD]
      have hc1 : ((m : Int) ≤ (a : Int)) = True := eq_true (by omega)
      clear HD HE ha hb2 hend hi hif hp
      go_wp2
      go_ret
      refine ⟨⟨_, rfl⟩, ?_, hb⟩
      rw [HX.out]
      exact hh
    · have hv := hh
      have hr : SRow B wr g n cap e1 := hv.row
      obtain ⟨f, rfl⟩ : ∃ k, f = k + 1 := ⟨f - 1, by omega⟩
      have hc1 : ((m : Int) ≤ (a : Int)) = False := eq_false (by omega)
      have HV : Hid (∀ k, HpV B p n (.slice (some ⟨g, 0, none⟩) n cap) e1 (wr.drewN k)) := fun k => hv.drewN k
      have hLess : (method 173 40 (.pointer (some ⟨p, 0, none⟩)) "Less").run Try.prog wr = .ok (44, .slice (some ⟨g, 0, none⟩) n cap) wr := hv.mLess
      have hLess2 : ∀ k, (method 173 40 (.pointer (some ⟨p, 0, none⟩)) "Less").run Try.prog (wr.drewN k) = .ok (44, .slice (some ⟨g, 0, none⟩) n cap) (wr.drewN k) := fun k => (HV.out k).mLess
      have hSwap : ∀ k, (method 173 40 (.pointer (some ⟨p, 0, none⟩)) "Swap").run Try.prog (wr.drewN k) = .ok (47, .slice (some ⟨g, 0, none⟩) n cap) (wr.drewN k) := fun k => (HV.out k).mSwap
      obtain ⟨c, hc⟩ : ∃ c, childF keyL e1 i m = c := ⟨_, rfl⟩
      have HD := downF_step (f := f) (show ¬ m ≤ 2 * i + 1 by omega) hc
      have hci := childF_is keyL e1 (i := i) (n := m) (by omega)
      rw [hc] at hci
      have hcn := hci.2.1
      have hc01 := hci.1
      have hmn := HN.out
      have HI : Hid (i < n ∧ a < n ∧ c < n ∧ c < m ∧ i < c ∧ m ≤ i + (f + 1)) := ⟨by omega, by omega, by omega, hcn, by omega, hif⟩
      have HR : Hid (∀ k, SRow B (wr.drewN k) g n cap e1) := fun _ => hr
      have HP : Hid (Pl n e1) := hp
      have HL : Hid (lessS (e1 c) (e1 i) = decide (keyL (e1 c) < keyL (e1 i))) := less_key (hp _ (by omega)) (hp _ (by omega))
      have HCH : Hid ((b < m ∧ lessS (e1 b) (e1 a) = true ∧ c = b) ∨ (b < m ∧ lessS (e1 b) (e1 a) = false ∧ c = a) ∨ (¬ b < m ∧ c = a)) := by
        show _ ∨ _
        unfold childF at hc
        rw [show 2 * i + 2 = b by omega, show 2 * i + 1 = a by omega] at hc
        by_cases hbm : b < m
        · rw [less_key (hp b (by omega)) (hp a (by omega))]
          by_cases hk : keyL (e1 b) < keyL (e1 a)
          · rw [if_pos ⟨hbm, hk⟩] at hc
            exact .inl ⟨hbm, decide_eq_true hk, hc.symm⟩
          · rw [if_neg (fun h => hk h.2)] at hc
            exact .inr (.inl ⟨hbm, decide_eq_false hk, hc.symm⟩)
        · rw [if_neg (fun h => hbm h.1)] at hc
          exact .inr (.inr ⟨hbm, hc.symm⟩)
      have HBX : Hid (b < m → b < n) := fun h => by omega
      have HQ : Hid ((lessS (e1 c) (e1 i) = true ∧ downF keyL (f + 1) e1 i m = downF keyL f (swapF e1 i c) c m) ∨ (lessS (e1 c) (e1 i) = false ∧ downF keyL (f + 1) e1 i m = (e1, i))) := by
        show _ ∨ _
        rw [HL.out, HD]
        by_cases hk : keyL (e1 c) < keyL (e1 i)
        · exact .inl ⟨decide_eq_true hk, if_pos hk⟩
        · exact .inr ⟨decide_eq_false hk, if_neg hk⟩
      clear hci hcn hc01 hmn HD hc HL hr hp hv hh hend hif hi ha hb2
      rcases HCH.out with ⟨hbm, hx, hcb⟩ | ⟨hbm, hx, hcb⟩ | ⟨hbm, hcb⟩
      · have hbmI : ((b : Int) < (m : Int)) = True := eq_true (by omega)
        have HX : Hid (lessS (e1 b) (e1 a) = true ∧ b < n) := ⟨hx, HBX.out hbm⟩
        subst hcb
        clear hx hbm HCH HBX
        rcases HQ.out with ⟨hy, hz⟩ | ⟨hy, hz⟩
        · have HY : Hid (lessS (e1 c) (e1 i) = true ∧ downF keyL (f + 1) e1 i m = downF keyL f (swapF e1 i c) c m) := ⟨hy, hz⟩
          clear hy hz HQ
          have l1 : Hid True := trivial
          go_wp2_with (first
            | (go_at_call 44; clear l1; refine (less_any (HR.out 0) HX.out.2 HI.out.2.1).mono ?_; rw [HX.out.1]; rintro e' w' ⟨rfl, k1, rfl⟩)
            | (go_at_call 44; refine (less_any (HR.out k1) HI.out.2.2.1 HI.out.1).mono ?_; rw [HY.out.1]; rintro e' w' ⟨rfl, k2, rfl⟩)
            | (go_at_call 47; refine (hswap_g (HV.out _) HI.out.1 HI.out.2.2.1).mono ?_; rintro e' w' ⟨rfl, hh2, ho2, hb2⟩))
          go_roundw
          case rel => exact ⟨c, f, _, by have := HI.out; omega, by have := HI.out; omega, rfl, hh2, HP.out.swap HI.out.1 HI.out.2.2.1, ⟨(hb.1.drewN _).trans ho2, (below_drewN hb.2 _).trans hb2⟩, HY.out.2.symm.trans HE.out⟩
          case measure => simp [intOf]; have := HI.out; omega
        · have HY : Hid (lessS (e1 c) (e1 i) = false ∧ downF keyL (f + 1) e1 i m = (e1, i)) := ⟨hy, hz⟩
          clear hy hz HQ
          have l1 : Hid True := trivial
          go_wp2_with (first
            | (go_at_call 44; clear l1; refine (less_any (HR.out 0) HX.out.2 HI.out.2.1).mono ?_; rw [HX.out.1]; rintro e' w' ⟨rfl, k1, rfl⟩)
            | (go_at_call 44; refine (less_any (HR.out k1) HI.out.2.2.1 HI.out.1).mono ?_; rw [HY.out.1]; rintro e' w' ⟨rfl, k2, rfl⟩))
          go_ret
          refine ⟨⟨_, rfl⟩, ?_, hb.1.drewN _, below_drewN hb.2 _⟩
          rw [← HE.out, HY.out.2]
          exact HV.out _
      · have hbmI : ((b : Int) < (m : Int)) = True := eq_true (by omega)
        have HX : Hid (lessS (e1 b) (e1 a) = false ∧ b < n) := ⟨hx, HBX.out hbm⟩
        subst hcb
        clear hx hbm HCH HBX
        rcases HQ.out with ⟨hy, hz⟩ | ⟨hy, hz⟩
        · have HY : Hid (lessS (e1 c) (e1 i) = true ∧ downF keyL (f + 1) e1 i m = downF keyL f (swapF e1 i c) c m) := ⟨hy, hz⟩
          clear hy hz HQ
          have l1 : Hid True := trivial
          go_wp2_with (first
            | (go_at_call 44; clear l1; refine (less_any (HR.out 0) HX.out.2 HI.out.2.1).mono ?_; rw [HX.out.1]; rintro e' w' ⟨rfl, k1, rfl⟩)
            | (go_at_call 44; refine (less_any (HR.out k1) HI.out.2.2.1 HI.out.1).mono ?_; rw [HY.out.1]; rintro e' w' ⟨rfl, k2, rfl⟩)
            | (go_at_call 47; refine (hswap_g (HV.out _) HI.out.1 HI.out.2.2.1).mono ?_; rintro e' w' ⟨rfl, hh2, ho2, hb2⟩))
          go_roundw
          case rel => exact ⟨c, f, _, by have := HI.out; omega, by have := HI.out; omega, rfl, hh2, HP.out.swap HI.out.1 HI.out.2.2.1, ⟨(hb.1.drewN _).trans ho2, (below_drewN hb.2 _).trans hb2⟩, HY.out.2.symm.trans HE.out⟩
          case measure => simp [intOf]; have := HI.out; omega
        · have HY : Hid (lessS (e1 c) (e1 i) = false ∧ downF keyL (f + 1) e1 i m = (e1, i)) := ⟨hy, hz⟩
          clear hy hz HQ
          have l1 : Hid True := trivial
          go_wp2_with (first
            | (go_at_call 44; clear l1; refine (less_any (HR.out 0) HX.out.2 HI.out.2.1).mono ?_; rw [HX.out.1]; rintro e' w' ⟨rfl, k1, rfl⟩)
            | (go_at_call 44; refine (less_any (HR.out k1) HI.out.2.2.1 HI.out.1).mono ?_; rw [HY.out.1]; rintro e' w' ⟨rfl, k2, rfl⟩))
          go_ret
          refine ⟨⟨_, rfl⟩, ?_, hb.1.drewN _, below_drewN hb.2 _⟩
          rw [← HE.out, HY.out.2]
          exact HV.out _
      · have hbmI : ((b : Int) < (m : Int)) = False := eq_false (by omega)
        subst hcb
        clear hbm HCH HBX
        rcases HQ.out with ⟨hy, hz⟩ | ⟨hy, hz⟩
        · have HY : Hid (lessS (e1 c) (e1 i) = true ∧ downF keyL (f + 1) e1 i m = downF keyL f (swapF e1 i c) c m) := ⟨hy, hz⟩
          clear hy hz HQ
          go_wp2_with (first
            | (go_at_call 44; refine (less_any (HR.out 0) HI.out.2.2.1 HI.out.1).mono ?_; rw [HY.out.1]; rintro e' w' ⟨rfl, k2, rfl⟩)
            | (go_at_call 47; refine (hswap_g (HV.out _) HI.out.1 HI.out.2.2.1).mono ?_; rintro e' w' ⟨rfl, hh2, ho2, hb2⟩))
          go_roundw
          case rel => exact ⟨c, f, _, by have := HI.out; omega, by have := HI.out; omega, rfl, hh2, HP.out.swap HI.out.1 HI.out.2.2.1, ⟨(hb.1.drewN _).trans ho2, (below_drewN hb.2 _).trans hb2⟩, HY.out.2.symm.trans HE.out⟩
          case measure => simp [intOf]; have := HI.out; omega
        · have HY : Hid (lessS (e1 c) (e1 i) = false ∧ downF keyL (f + 1) e1 i m = (e1, i)) := ⟨hy, hz⟩
          clear hy hz HQ
          go_wp2_with (first
            | (go_at_call 44; refine (less_any (HR.out 0) HI.out.2.2.1 HI.out.1).mono ?_; rw [HY.out.1]; rintro e' w' ⟨rfl, k2, rfl⟩))
          go_ret
          refine ⟨⟨_, rfl⟩, ?_, hb.1.drewN _, below_drewN hb.2 _⟩
          rw [← HE.out, HY.out.2]
          exact HV.out _

end Pit
end Go.Proofs.Ytamiokleolfnoaa
