/- The filter that foretells a sound: the document's own Solve. -/
import Derived.Test.YtjaccokmficfdabLevB
import Derived.Test.YtjaccokmficfdabLevinN
import Derived.Test.YtjaccokmficfdabLpcQ
import Derived.Test.YtjaccokmficfdabLastOp
import Derived.Deep.AppendLies
import Derived.Deep.RegionHeld3
namespace Go.Proofs.Ytjaccokmficfdab
namespace Lev
open Go.RowKit

theorem limL_41 (zs : List Int) : limL (-2199023255552) 2199023255552 zs = c41L zs := rfl
theorem mixL_cell {L l0 : List Int} {n m : Nat} (h : L.length = n) (h0 : l0.length = n) (hm : m < n) : (mixL L l0 m).length = n ∧ (mixL L l0 m)[m]?.getD 0 = l0[m]?.getD 0 := ⟨mixL_len h h0 (by omega), mixL_at h h0 hm⟩

theorem own_low {e : TypeId} {B B' n : Nat} {w : World} {v : Value} {xs : List Value} (h : w.ownsRow B e 1 v n xs) (hB : B' ≤ B) : w.ownsRow B' e 1 v n xs := by
  obtain ⟨h0, h1 | ⟨g', cap', cur, hv, h1, h2⟩⟩ := h
  · exact ⟨h0, .inl h1⟩
  · exact ⟨h0, .inr ⟨g', cap', cur, hv, Nat.le_trans hB h1, h2⟩⟩

/-- 'append(.., y)' of a number as one step of a region that draws: y has been laid into a block of its own, H. -/
theorem step_push_64 {ops : Array Oper} {o : Oper} {a : Act} {W : World} {K : Act → World → Prop} {Q : Exit → Act → World → Prop} {E : Prop} (B : Nat) (v : Value) (n : Nat) (zs : List Int) (y : Int) (H : Nat)
    (hown : W.ownsRow B 2 1 v n (zs.map (Value.int .i64))) (hm : n ≤ 100000) (hB : B ≤ W.heap.size) (hnew : W.heap[H]? = some (.cells #[.int .i64 y] 2))
    (hgd : o.guard = none) (s x : Operand) (ho : o.op = .call { callee := .builtin .append, args := #[s, x], argTypes := #[22, 22] }) (hs : a.eval s = v) (hx : a.eval x = .slice (some ⟨H, 0, none⟩) 1 1)
    (hk : ∀ g cap w', w'.ownsRow B 2 1 (.slice (some ⟨g, 0, none⟩) (n + 1) cap) (n + 1) ((zs ++ [y]).map (Value.int .i64)) → Below B W w' → K (a.put o.dst (.slice (some ⟨g, 0, none⟩) (n + 1) cap)) w') :
    if Region.wanted o (yielded ops a.tmps) = true then Oper.wp Try.prog o a W K Q else E := by
  obtain ⟨i, hi, hzz⟩ := Option.map_eq_some_iff.1 info_int64
  simp only [Prod.mk.injEq] at hzz
  obtain ⟨hz, hsz, hby⟩ := hzz
  refine step_append_lies _ hgd s x 22 ho B 2 i (.int .i64 0) 1 8 Try.underlying22 hi hz hsz hby rfl (by decide) v n (zs.map (Value.int .i64)) hs hown ⟨H, 0, none⟩ 1 1 [.int .i64 y] hx rfl
    (World.news_of_block hnew) (by intro u hu; simp at hu; subst hu; rfl) (by decide) (by unfold maxLen; omega) (by omega) hB _ rfl ?_
  intro g cap w' h4 h5 h6 _
  have e : (zs ++ [y]).map (Value.int .i64) = zs.map (Value.int .i64) ++ [.int .i64 y] := by rw [List.map_append]; rfl
  exact hk g cap w' (by rw [e]; exact h4) ((Below.refl B W).grown h5 hB (fun k hk => (hown.lt k hk).1))

/-- The first i of the new numbers. -/
def nextTo (A : List Int) (k : Int) (m i : Nat) : List Int := (List.range i).map (nextAt A k m)
theorem nextTo_succ (A : List Int) (k : Int) (m i : Nat) : nextTo A k m i ++ [nextAt A k m i] = nextTo A k m (i + 1) := by
  unfold nextTo
  rw [List.range_succ, List.map_append]
  rfl
theorem nextTo_all (A : List Int) (k : Int) (m : Nat) : nextTo A k m m ++ [k] = nextA A k m := rfl

theorem nextA_in {A : List Int} {k : Int} (m : Nat) (hk : -16760438 ≤ k ∧ k ≤ 16760438) (i : Nat) : -2147483648 ≤ (nextA A k m)[i]?.getD 0 ∧ (nextA A k m)[i]?.getD 0 ≤ 2147483648 := by
  unfold nextA
  by_cases h : i < m
  · rw [List.getElem?_append_left (by rw [List.length_map, List.length_range]; exact h), List.getElem?_map, List.getElem?_range h]
    exact clampI_in _ _ _ (by decide)
  · rw [List.getElem?_append_right (by rw [List.length_map, List.length_range]; omega), List.length_map, List.length_range]
    by_cases h2 : i - m = 0
    · rw [h2]
      show -2147483648 ≤ k ∧ k ≤ 2147483648
      omega
    · rw [List.getElem?_eq_none (by simp; omega)]
      decide
theorem levA_in (r : List Int) : ∀ (m i : Nat), -2147483648 ≤ (levN r m).1[i]?.getD 0 ∧ (levN r m).1[i]?.getD 0 ≤ 2147483648
  | 0, i => by
    show -2147483648 ≤ ([] : List Int)[i]?.getD 0 ∧ ([] : List Int)[i]?.getD 0 ≤ 2147483648
    simp
  | m + 1, i => nextA_in m (turnK_in _ _ _ _) i

/-- What the doubling loop knows of its numbers. -/
def Ups (U : List Int) (o k : Nat) (cur : List Int) : Prop := cur.length = o + 1 ∧ Wide cur ∧ 1 ≤ r0Z cur ∧ (536870912 : Int) ≤ r0Z cur * 2 ^ k ∧ upN k cur = U
def Dns (U : List Int) (o k : Nat) (cur : List Int) : Prop := cur.length = o + 1 ∧ Wide cur ∧ 536870912 ≤ r0Z cur ∧ r0Z cur < 1073741824 * 2 ^ k ∧ dnN k cur = U

theorem dbl_r0 {r : List Int} (h0 : 0 < r.length) (h1 : 1 ≤ r0Z r) (hs : r0Z r < 536870912) : r0Z (dblL r) = r0Z r * 2 := by
  unfold r0Z at *
  rw [dblL_at h0]
  unfold clampI
  rw [if_neg (by omega), if_neg (by decide), if_neg (by omega)]
theorem Ups.next {U : List Int} {o k : Nat} {cur : List Int} (h : Ups U o (k + 1) cur) (hs : r0Z cur < 536870912) : Ups U o k (dblL cur) := by
  obtain ⟨h1, h2, h3, h4, h5⟩ := h
  have e := dbl_r0 (by omega) h3 hs
  refine ⟨by rw [dblL_len]; exact h1, dblL_wide _, by omega, ?_, by rw [← h5, upN_step hs]⟩
  rw [e, Int.mul_assoc, Int.mul_comm 2, ← Int.pow_succ]
  exact h4
theorem Ups.more {U : List Int} {o k : Nat} {cur : List Int} (h : Ups U o k cur) (hs : r0Z cur < 536870912) : ∃ j, k = j + 1 := by
  cases k with
  | zero =>
    have := h.2.2.2.1
    rw [Int.pow_zero, Int.mul_one] at this
    omega
  | succ j => exact ⟨j, rfl⟩
theorem Dns.next {U : List Int} {o k : Nat} {cur : List Int} (h : Dns U o (k + 1) cur) (hs : ¬ r0Z cur < 1073741824) : Dns U o k (hlfL cur) := by
  obtain ⟨h1, h2, h3, h4, h5⟩ := h
  have e : r0Z (hlfL cur) = r0Z cur / 2 := hlfL_at cur 0
  rw [Int.pow_succ] at h4
  exact ⟨by rw [hlfL_len]; exact h1, hlfL_wide h2, by omega, by omega, by rw [← h5, dnN_step hs]⟩
theorem Dns.more {U : List Int} {o k : Nat} {cur : List Int} (h : Dns U o k cur) (hs : ¬ r0Z cur < 1073741824) : ∃ j, k = j + 1 := by
  cases k with
  | zero =>
    have := h.2.2.2.1
    rw [Int.pow_zero, Int.mul_one] at this
    omega
  | succ j => exact ⟨j, rfl⟩

end Lev
end Go.Proofs.Ytjaccokmficfdab
