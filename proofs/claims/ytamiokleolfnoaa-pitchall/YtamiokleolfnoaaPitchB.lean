/- container/heap over package pitch's lags: up, down, Push, Pop go the steps of the plain heap. -/
import Derived.Test.YtamiokleolfnoaaPitchA
namespace Go.Proofs.Ytamiokleolfnoaa
namespace Pit
open Go.RowKit

def Pl (n : Nat) (e : Nat → LagS) : Prop := ∀ k, k < n → 0 ≤ (e k).1 ∧ (e k).1 < 1000
theorem less_key {x y : LagS} (hx : 0 ≤ x.1 ∧ x.1 < 1000) (hy : 0 ≤ y.1 ∧ y.1 < 1000) : lessS x y = decide (keyL x < keyL y) := by
  unfold lessS keyL
  split
  · refine decide_eq_decide.2 ⟨fun h => ?_, fun h => ?_⟩ <;> omega
  · refine decide_eq_decide.2 ⟨fun h => ?_, fun h => ?_⟩ <;> omega
theorem Pl.swap {n i j : Nat} {e : Nat → LagS} (h : Pl n e) (hi : i < n) (hj : j < n) : Pl n (swapF e i j) := fun k hk => by
  unfold swapF
  split
  · exact h j hj
  · split
    · exact h i hi
    · exact h k hk

/-! ### Which method a call through the interface is -/
theorem m_less (a : Addr) (w : World) : (method 173 40 (.pointer (some a)) "Less").run Try.prog w = ((fun v => (44, v)) <$> loadVar 41 a).run Try.prog w := by kernel_rfl
theorem m_len (a : Addr) (w : World) : (method 173 40 (.pointer (some a)) "Len").run Try.prog w = ((fun v => (18, v)) <$> loadVar 41 a).run Try.prog w := by kernel_rfl
theorem m_swap (a : Addr) (w : World) : (method 173 40 (.pointer (some a)) "Swap").run Try.prog w = ((fun v => (47, v)) <$> loadVar 41 a).run Try.prog w := by kernel_rfl
theorem m_push (a : Addr) (w : World) : (method 173 40 (.pointer (some a)) "Push").run Try.prog w = .ok (46, .pointer (some a)) w := by kernel_rfl
theorem m_pop (a : Addr) (w : World) : (method 173 40 (.pointer (some a)) "Pop").run Try.prog w = .ok (45, .pointer (some a)) w := by kernel_rfl

theorem load_hp {p : Nat} {v : Value} {w : World} (h : w.cell? ⟨p, 0, none⟩ = some v) (f : Nat) : ((fun v => (f, v)) <$> loadVar 41 ⟨p, 0, none⟩).run Try.prog w = .ok (f, v) w := by
  simp [go_sem, loadVar, h]

section
variable {B p n : Nat} {v : Value} {e : Nat → LagS} {w : World}
theorem HpV.mLess (h : HpV B p n v e w) : (method 173 40 (.pointer (some ⟨p, 0, none⟩)) "Less").run Try.prog w = .ok (44, v) w := (m_less _ _).trans (load_hp h.at _)
theorem HpV.mLen (h : HpV B p n v e w) : (method 173 40 (.pointer (some ⟨p, 0, none⟩)) "Len").run Try.prog w = .ok (18, v) w := (m_len _ _).trans (load_hp h.at _)
theorem HpV.mSwap (h : HpV B p n v e w) : (method 173 40 (.pointer (some ⟨p, 0, none⟩)) "Swap").run Try.prog w = .ok (47, v) w := (m_swap _ _).trans (load_hp h.at _)
end

/-- Another order of the same block's lags. -/
theorem HpV.other {B p n g cap : Nat} {e e' : Nat → LagS} {w w' : World} (h : HpV B p n (.slice (some ⟨g, 0, none⟩) n cap) e w) (hr : SRow B w' g n cap e') (hc : w'.heap[p]? = w.heap[p]?) : Hp B p n e' w' :=
  ⟨_, ⟨hc.trans h.cell, h.low, hr, h.far⟩⟩

theorem wrap_n {z : Int} (h1 : -1000000 ≤ z) (h2 : z ≤ 1000000) : wrap64 z = z := by unfold wrap64; omega

theorem hswap_any {B p n g cap : Nat} {e : Nat → LagS} {w : World} (h : HpV B p n (.slice (some ⟨g, 0, none⟩) n cap) e w) {i j : Nat} (hi : i < n) (hj : j < n) :
    Calls Try.prog 47 #[.slice (some ⟨g, 0, none⟩) n cap, .int .i64 i, .int .i64 j] w fun e' w' => e' = .returned (.tuple #[]) ∧ Hp B p n (swapF e i j) w' ∧ Below B w w' := by
  refine (swap_any (h := (show SRow B w g n cap e from h.row)) hi hj).mono ?_
  rintro e' w' ⟨he, hr, hc, hb⟩
  exact ⟨he, h.other hr (hc p h.far'), hb⟩

/-- Nothing has turned but blocks p and g, and what is new. -/
def Off2 (p g : Nat) (w w' : World) : Prop := w.heap.size ≤ w'.heap.size ∧ ∀ k, k < w.heap.size → k ≠ p → k ≠ g → w'.heap[k]? = w.heap[k]?
theorem Off2.refl (p g : Nat) (w : World) : Off2 p g w w := ⟨Nat.le_refl _, fun _ _ _ _ => rfl⟩
theorem Off2.trans {p g : Nat} {w w' w'' : World} (h : Off2 p g w w') (k : Off2 p g w' w'') : Off2 p g w w'' := ⟨Nat.le_trans h.1 k.1, fun i hi h1 h2 => (k.2 i (Nat.lt_of_lt_of_le hi h.1) h1 h2).trans (h.2 i hi h1 h2)⟩
theorem Off2.drewN {p g : Nat} {w w' : World} (h : Off2 p g w w') (k : Nat) : Off2 p g w (w'.drewN k) := h

theorem hswap_g {B p n g cap : Nat} {e : Nat → LagS} {w : World} (h : HpV B p n (.slice (some ⟨g, 0, none⟩) n cap) e w) {i j : Nat} (hi : i < n) (hj : j < n) :
    Calls Try.prog 47 #[.slice (some ⟨g, 0, none⟩) n cap, .int .i64 i, .int .i64 j] w fun e' w' => e' = .returned (.tuple #[]) ∧ HpV B p n (.slice (some ⟨g, 0, none⟩) n cap) (swapF e i j) w' ∧ Off2 p g w w' ∧ Below B w w' := by
  refine (swap_any (h := (show SRow B w g n cap e from h.row)) hi hj).mono ?_
  rintro e' w' ⟨he, hr, hc, hb⟩
  exact ⟨he, ⟨(hc p h.far').trans h.cell, h.low, hr, h.far⟩, ⟨hb.size, fun k _ _ hk => hc k hk⟩, hb⟩

set_option maxRecDepth 100000 in
set_option maxHeartbeats 400000 in
theorem up_any {B p n : Nat} {e : Nat → LagS} {w : World} (h : Hp B p n e w) (hl : Pl n e) (j : Nat) (hj : j < n) (hn : n ≤ 1000) :
    Calls Try.prog 23 #[.iface 40 (.pointer (some ⟨p, 0, none⟩)), .int .i64 j] w fun e' w' => e' = .returned (.tuple #[]) ∧ Hp B p n (upF keyL n e j) w' ∧ Below B w w' := by
  have HN : Hid (n ≤ 1000) := hn
  clear hn
  go_enter Try.func23, Try.ntmps23
  go_wp2
  go_loopw [1] (fun x W => ∃ (i : Nat) (f : Nat) (e1 : Nat → LagS), i < n ∧ i ≤ f ∧ x = .int .i64 i ∧ Hp B p n e1 W ∧ Pl n e1 ∧ Below B w W ∧ Hid (upF keyL f e1 i = upF keyL n e j)) (fun x _ => (intOf x).toNat)
  case atStart => exact ⟨j, n, e, hj, by omega, rfl, h, hl, Below.refl _ _, rfl⟩
  case round =>
    obtain ⟨i, f, e1, hi, hif, rfl, hh, hp, hb, HE⟩ := hrel
    obtain ⟨v, hv⟩ := hh
    obtain ⟨g, cap, rfl, hne, hr⟩ := hv.inRow (by omega)
    by_cases h0 : i = 0
    · subst h0
      go_wp2
      go_end0
      have e0 : upF keyL f e1 0 = e1 := by cases f <;> rfl
      refine ⟨rfl, ?_, hb⟩
      rw [← HE.out, e0]
      exact ⟨_, hv⟩
    · obtain ⟨m, hm⟩ : ∃ m, i = m + 1 := ⟨i - 1, by omega⟩
      obtain ⟨f, rfl⟩ : ∃ k, f = k + 1 := ⟨f - 1, by omega⟩
      obtain ⟨q, hq⟩ : ∃ q, m / 2 = q := ⟨_, rfl⟩
      have HV : Hid (∀ k, HpV B p n (.slice (some ⟨g, 0, none⟩) n cap) e1 (wr.drewN k)) := fun k => hv.drewN k
      have hLess := hv.mLess
      have hSwap : ∀ k, (method 173 40 (.pointer (some ⟨p, 0, none⟩)) "Swap").run Try.prog (wr.drewN k) = .ok (47, .slice (some ⟨g, 0, none⟩) n cap) (wr.drewN k) := fun k => (HV.out k).mSwap
      have hw1 : wrap64 ((i : Int) - 1) = m := by rw [show (i : Int) - 1 = m by omega]; exact wrap_n (by omega) (by have := HN.out; omega)
      have hw2 : wrap64 ((m : Int) / 2) = q := by rw [show (m : Int) / 2 = q by omega]; exact wrap_n (by omega) (by have := HN.out; omega)
      have hw3 : ((q : Int) == (i : Int)) = false := beq_eq_false_iff_ne.2 (by omega)
      have HI : Hid (i < n ∧ q < n ∧ i ≤ f + 1 ∧ (i - 1) / 2 = q ∧ q < i) := ⟨hi, by omega, hif, by omega, by omega⟩
      have HR : Hid (SRow B wr g n cap e1) := hr
      have HL : Hid (lessS (e1 i) (e1 q) = decide (keyL (e1 i) < keyL (e1 q))) := less_key (hp _ hi) (hp _ (by omega))
      have HP : Hid (Pl n e1) := hp
      clear hq hi hif hr hv hp h0 hm
      have HU : Hid (upF keyL (f + 1) e1 i = if keyL (e1 i) < keyL (e1 q) then upF keyL f (swapF e1 q i) q else e1) := by
        obtain ⟨_, _, _, h4, h5⟩ := HI.out
        have e0 : upF keyL (f + 1) e1 i = if (i - 1) / 2 = i then e1 else if keyL (e1 i) < keyL (e1 ((i - 1) / 2)) then upF keyL f (swapF e1 ((i - 1) / 2) i) ((i - 1) / 2) else e1 := rfl
        rw [h4, if_neg (by omega)] at e0
        exact e0
      by_cases hk : keyL (e1 i) < keyL (e1 q)
      · have HK : Hid (upF keyL (f + 1) e1 i = upF keyL f (swapF e1 q i) q) := HU.out.trans (if_pos hk)
        have HL2 : Hid (lessS (e1 i) (e1 q) = true) := HL.out.trans (decide_eq_true hk)
        clear hk HL HU
        go_wp2_with (first
          | (go_at_call 44; go_loud (refine (less_any HR.out HI.out.1 HI.out.2.1).mono ?_; rw [HL2.out]; rintro e' w' ⟨rfl, k, rfl⟩))
          | (go_at_call 47; go_loud (refine (hswap_any (HV.out k) HI.out.2.1 HI.out.1).mono ?_; rintro e' w' ⟨rfl, hh2, hb2⟩)))
        go_roundw
        case rel =>
          exact ⟨q, f, _, HI.out.2.1, by have := HI.out; omega, rfl, hh2, HP.out.swap HI.out.2.1 HI.out.1, ((below_drewN hb k).trans hb2), HK.out.symm.trans HE.out⟩
        case measure => simp [intOf]; have := HI.out; omega
      · have HK : Hid (upF keyL (f + 1) e1 i = e1) := HU.out.trans (if_neg hk)
        have HL2 : Hid (lessS (e1 i) (e1 q) = false) := HL.out.trans (decide_eq_false hk)
        clear hk HL HU
        go_wp2_with (first
          | (go_at_call 44; go_loud (refine (less_any HR.out HI.out.1 HI.out.2.1).mono ?_; rw [HL2.out]; rintro e' w' ⟨rfl, k, rfl⟩)))
        go_end0
        refine ⟨rfl, ?_, below_drewN hb k⟩
        rw [← HE.out, HK.out]
        exact ⟨_, HV.out k⟩

end Pit
end Go.Proofs.Ytamiokleolfnoaa
