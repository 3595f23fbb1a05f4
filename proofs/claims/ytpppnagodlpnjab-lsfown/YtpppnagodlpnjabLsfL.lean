/- The index that is found, as the document's own answer has it. -/
import Derived.Test.YtpppnagodlpnjabLsfK
import Derived.Deep.RegionLaw
import Derived.Deep.AppendLies
namespace Go.Proofs.Ytpppnagodlpnjab
open Go.RowKit

/-- 'append(.., y)' of a number as one step of a region that draws: y has been laid into a block of its own, H. -/
theorem step_push_int {ops : Array Oper} {o : Oper} {a : Act} {W : World} {K : Act → World → Prop} {Q : Exit → Act → World → Prop} {E : Prop} (B : Nat) (v : Value) (n : Nat) (zs : List Int) (y : Int) (H : Nat)
    (hown : W.ownsRow B 3 1 v n (zs.map (Value.int .i64))) (hm : n ≤ 1000) (hB : B ≤ W.heap.size) (hnew : W.heap[H]? = some (.cells #[.int .i64 y] 3))
    (hgd : o.guard = none) (s x : Operand) (ho : o.op = .call { callee := .builtin .append, args := #[s, x], argTypes := #[27, 27] }) (hs : a.eval s = v) (hx : a.eval x = .slice (some ⟨H, 0, none⟩) 1 1)
    (hk : ∀ g cap w', w'.ownsRow B 3 1 (.slice (some ⟨g, 0, none⟩) (n + 1) cap) (n + 1) ((zs ++ [y]).map (Value.int .i64)) → Below B W w' → K (a.put o.dst (.slice (some ⟨g, 0, none⟩) (n + 1) cap)) w') :
    if Region.wanted o (yielded ops a.tmps) = true then Oper.wp Try.prog o a W K Q else E := by
  obtain ⟨i, hi, hzz⟩ := Option.map_eq_some_iff.1 info_int
  simp only [Prod.mk.injEq] at hzz
  obtain ⟨hz, hsz, hby⟩ := hzz
  refine step_append_lies _ hgd s x 27 ho B 3 i (.int .i64 0) 1 8 Try.underlying27 hi hz hsz hby rfl (by decide) v n (zs.map (Value.int .i64)) hs hown ⟨H, 0, none⟩ 1 1 [.int .i64 y] hx rfl
    (World.news_of_block hnew) (by intro u hu; simp at hu; subst hu; rfl) (by decide) (by unfold maxLen; omega) (by omega) hB _ rfl ?_
  intro g cap w' h4 h5 h6 _
  have e : (zs ++ [y]).map (Value.int .i64) = zs.map (Value.int .i64) ++ [.int .i64 y] := by rw [List.map_append]; rfl
  exact hk g cap w' (by rw [e]; exact h4) ((Below.refl B W).grown h5 hB (fun k hk => (hown.lt k hk).1))

theorem ownsRow_below {W W' : World} {B : Nat} {e : TypeId} {v : Value} {n : Nat} {xs : List Value} (h : W.ownsRow B e 1 v n xs) (hb : Below W.heap.size W W') : W'.ownsRow B e 1 v n xs := by
  obtain ⟨hl, h⟩ := h
  refine ⟨hl, ?_⟩
  rcases h with h | ⟨g, cap, cur, hv, hg, hh, hr⟩
  · exact .inl h
  · exact .inr ⟨g, cap, cur, hv, hg, (hb.block g (Array.getElem?_eq_some_iff.1 hh).1).trans hh, hr⟩

/-- The least so far, behind m rows: -1 where there is none. -/
def leastSo (f : Nat → Int) (m : Nat) : Int := if m = 0 then -1 else f (bestN f m)
theorem leastSo_step {f : Nat → Int} {m : Nat} (hf : ∀ j, 0 ≤ f j) : ((leastSo f m < 0 ∨ f m < leastSo f m) → bestN f (m + 1) = m ∧ leastSo f (m + 1) = f m) ∧ (¬ (leastSo f m < 0 ∨ f m < leastSo f m) → bestN f (m + 1) = bestN f m ∧ leastSo f (m + 1) = leastSo f m) := by
  have h1 : leastSo f (m + 1) = f (bestN f (m + 1)) := if_neg (Nat.succ_ne_zero m)
  rcases Nat.eq_zero_or_pos m with rfl | hm
  · have e0 : leastSo f 0 = -1 := rfl
    have e1 : bestN f 1 = 0 := Nat.lt_one_iff.1 (bestN_lt f 0)
    rw [h1, e0]
    refine ⟨fun _ => ⟨e1, by rw [show (0 : Nat) + 1 = 1 from rfl, e1]⟩, fun h => absurd (.inl (by decide)) h⟩
  · have e0 : leastSo f m = f (bestN f m) := if_neg (by omega)
    have h0 := hf (bestN f m)
    rw [h1, e0, bestN_step]
    constructor
    · intro h
      have h2 : f m < f (bestN f m) := by omega
      rw [if_pos h2]
      exact ⟨rfl, rfl⟩
    · intro h
      have h2 : ¬ f m < f (bestN f m) := by omega
      rw [if_neg h2]
      exact ⟨rfl, rfl⟩

end Go.Proofs.Ytpppnagodlpnjab
