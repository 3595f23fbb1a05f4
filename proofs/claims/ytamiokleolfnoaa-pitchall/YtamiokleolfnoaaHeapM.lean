/- Heaps as plain positions: down, up, what stands at the root. An element's key tells which is less. (Go's container/heap goes these steps.) Nothing here is of any program. -/
import Derived.Test.YtamiokleolfnoaaFixA
namespace Go.Proofs.Ytamiokleolfnoaa
open Go.RowKit

section
variable {α : Type}

def swapF (e : Nat → α) (i j : Nat) : Nat → α := fun k => if k = i then e j else if k = j then e i else e k

/-- The child of i that is less (of two alike the first). -/
def childF (key : α → Int) (e : Nat → α) (i n : Nat) : Nat := if 2 * i + 2 < n ∧ key (e (2 * i + 2)) < key (e (2 * i + 1)) then 2 * i + 2 else 2 * i + 1

/-- Down from i among n: what stands where then, and where it came to rest. -/
def downF (key : α → Int) : Nat → (Nat → α) → Nat → Nat → (Nat → α) × Nat
  | 0, e, i, _ => (e, i)
  | f + 1, e, i, n => if n ≤ 2 * i + 1 then (e, i) else if key (e (childF key e i n)) < key (e i) then downF key f (swapF e i (childF key e i n)) (childF key e i n) n else (e, i)

/-- Up from j. -/
def upF (key : α → Int) : Nat → (Nat → α) → Nat → (Nat → α)
  | 0, e, _ => e
  | f + 1, e, j => if (j - 1) / 2 = j then e else if key (e j) < key (e ((j - 1) / 2)) then upF key f (swapF e ((j - 1) / 2) j) ((j - 1) / 2) else e

/-- No child from lo's on is less than what stands over it. -/
def HeapOk (key : α → Int) (lo n : Nat) (e : Nat → α) : Prop := ∀ c, 1 ≤ c → c < n → lo ≤ (c - 1) / 2 → key (e ((c - 1) / 2)) ≤ key (e c)

/-- But for what stands under i. -/
structure DownPre (key : α → Int) (lo i n : Nat) (e : Nat → α) : Prop where
  rest : ∀ c, 1 ≤ c → c < n → lo ≤ (c - 1) / 2 → (c - 1) / 2 ≠ i → key (e ((c - 1) / 2)) ≤ key (e c)
  over : 1 ≤ i → lo ≤ (i - 1) / 2 → ∀ c, 1 ≤ c → c < n → (c - 1) / 2 = i → key (e ((i - 1) / 2)) ≤ key (e c)

theorem swapF_left (e : Nat → α) (i j : Nat) : swapF e i j i = e j := if_pos rfl
theorem swapF_right (e : Nat → α) (i j : Nat) : swapF e i j j = e i := by
  unfold swapF
  split
  · rename_i h; rw [h]
  · rw [if_pos rfl]
theorem swapF_else (e : Nat → α) {i j k : Nat} (h1 : k ≠ i) (h2 : k ≠ j) : swapF e i j k = e k := by unfold swapF; rw [if_neg h1, if_neg h2]

theorem childF_is (key : α → Int) (e : Nat → α) {i n : Nat} (h : 2 * i + 1 < n) : (childF key e i n = 2 * i + 1 ∨ childF key e i n = 2 * i + 2) ∧ childF key e i n < n ∧ ∀ c, (c = 2 * i + 1 ∨ c = 2 * i + 2) → c < n → key (e (childF key e i n)) ≤ key (e c) := by
  unfold childF
  by_cases hc : 2 * i + 2 < n ∧ key (e (2 * i + 2)) < key (e (2 * i + 1))
  · rw [if_pos hc]
    refine ⟨.inr rfl, hc.1, fun c h1 _ => ?_⟩
    rcases h1 with rfl | rfl
    · omega
    · exact Int.le_refl _
  · rw [if_neg hc]
    refine ⟨.inl rfl, h, fun c h1 h2 => ?_⟩
    rcases h1 with rfl | rfl
    · exact Int.le_refl _
    · rcases Int.lt_or_le (key (e (2 * i + 2))) (key (e (2 * i + 1))) with h3 | h3
      · exact absurd ⟨h2, h3⟩ hc
      · exact h3

theorem down_ok (key : α → Int) (lo n : Nat) : ∀ (f i : Nat) (e : Nat → α), lo ≤ i → n ≤ i + f → DownPre key lo i n e → HeapOk key lo n (downF key f e i n).1
  | 0, i, e, _, hf, h => fun c h1 h2 h3 => by
    show key (e _) ≤ key (e c)
    exact h.rest c h1 h2 h3 (by omega)
  | f + 1, i, e, hlo, hf, h => by
    unfold downF
    by_cases hn : n ≤ 2 * i + 1
    · rw [if_pos hn]
      exact fun c h1 h2 h3 => h.rest c h1 h2 h3 (by omega)
    rw [if_neg hn]
    obtain ⟨k1, k2, k3⟩ := childF_is key e (i := i) (n := n) (by omega)
    generalize childF key e i n = j at *
    by_cases hk : key (e j) < key (e i)
    · rw [if_pos hk]
      refine down_ok key lo n f j _ (by omega) (by omega) ⟨fun c h1 h2 h3 h4 => ?_, fun _ _ c h1 h2 h3 => ?_⟩
      · by_cases hci : c = i
        · subst hci
          rw [swapF_left, swapF_else e (by omega) (by omega)]
          exact h.over (by omega) h3 j (by omega) k2 (by omega)
        · by_cases hpi : (c - 1) / 2 = i
          · rw [hpi, swapF_left]
            by_cases hcj : c = j
            · subst hcj
              rw [swapF_right]
              omega
            · rw [swapF_else e hci hcj]
              exact k3 c (by omega) h2
          · by_cases hcj : c = j
            · omega
            · rw [swapF_else e hci hcj, swapF_else e hpi h4]
              exact h.rest c h1 h2 h3 hpi
      · have e1 : (j - 1) / 2 = i := by omega
        rw [e1, swapF_left, swapF_else e (by omega) (by omega)]
        have := h.rest c h1 h2 (by omega) (by omega)
        rw [h3] at this
        exact this
    · rw [if_neg hk]
      intro c h1 h2 h3
      show key (e _) ≤ key (e c)
      by_cases hpi : (c - 1) / 2 = i
      · rw [hpi]
        have := k3 c (by omega) h2
        omega
      · exact h.rest c h1 h2 h3 hpi

/-- But for what stands over j. -/
structure UpPre (key : α → Int) (j n : Nat) (e : Nat → α) : Prop where
  rest : ∀ c, 1 ≤ c → c < n → c ≠ j → key (e ((c - 1) / 2)) ≤ key (e c)
  under : 1 ≤ j → ∀ c, 1 ≤ c → c < n → (c - 1) / 2 = j → key (e ((j - 1) / 2)) ≤ key (e c)

theorem up_ok (key : α → Int) (n : Nat) : ∀ (f j : Nat) (e : Nat → α), j ≤ f → j < n → UpPre key j n e → HeapOk key 0 n (upF key f e j)
  | 0, j, e, hf, _, h => fun c h1 h2 _ => by
    show key (e _) ≤ key (e c)
    exact h.rest c h1 h2 (by omega)
  | f + 1, j, e, hf, hj, h => by
    unfold upF
    by_cases h0 : (j - 1) / 2 = j
    · rw [if_pos h0]
      exact fun c h1 h2 _ => h.rest c h1 h2 (by omega)
    rw [if_neg h0]
    obtain ⟨i, hi⟩ : ∃ i, (j - 1) / 2 = i := ⟨_, rfl⟩
    rw [hi]
    by_cases hk : key (e j) < key (e i)
    · rw [if_pos hk]
      refine up_ok key n f i _ (by omega) (by omega) ⟨fun c h1 h2 h3 => ?_, fun h4 c h1 h2 h3 => ?_⟩
      · by_cases hcj : c = j
        · subst hcj
          rw [hi, swapF_left, swapF_right]
          omega
        · by_cases hpi : (c - 1) / 2 = i
          · rw [hpi, swapF_left, swapF_else e h3 hcj]
            have := h.rest c h1 h2 hcj
            rw [hpi] at this
            omega
          · by_cases hpj : (c - 1) / 2 = j
            · rw [hpj, swapF_right, swapF_else e h3 hcj]
              have := h.under (by omega) c h1 h2 hpj
              rw [hi] at this
              exact this
            · rw [swapF_else e hpi hpj, swapF_else e h3 hcj]
              exact h.rest c h1 h2 hcj
      · have e1 := h.rest i h4 (by omega) (by omega)
        rw [swapF_else e (show (i - 1) / 2 ≠ i by omega) (by omega)]
        by_cases hcj : c = j
        · subst hcj
          rw [swapF_right]
          exact e1
        · rw [swapF_else e (by omega) hcj]
          have := h.rest c h1 h2 hcj
          rw [h3] at this
          omega
    · rw [if_neg hk]
      intro c h1 h2 _
      by_cases hcj : c = j
      · subst hcj
        rw [hi]
        omega
      · exact h.rest c h1 h2 hcj

/-- At the root stands one that is least. -/
theorem root_least {key : α → Int} {n : Nat} {e : Nat → α} (h : HeapOk key 0 n e) : ∀ (m k : Nat), k ≤ m → k < n → key (e 0) ≤ key (e k)
  | 0, k, hm, _ => by
    obtain rfl : k = 0 := by omega
    exact Int.le_refl _
  | m + 1, k, hm, hk => by
    rcases Nat.eq_zero_or_pos k with rfl | h0
    · exact Int.le_refl _
    · exact Int.le_trans (root_least h m ((k - 1) / 2) (by omega) (by omega)) (h k h0 hk (Nat.zero_le _))

/-! ### The same elements, in other places -/
structure Shuf (n : Nat) (e e' : Nat → α) : Prop where
  to : ∃ s t : Nat → Nat, (∀ k, k < n → s k < n ∧ t k < n ∧ s (t k) = k ∧ t (s k) = k) ∧ (∀ k, k < n → e' k = e (s k))
  far : ∀ k, n ≤ k → e' k = e k

theorem Shuf.refl (n : Nat) (e : Nat → α) : Shuf n e e := ⟨⟨fun k => k, fun k => k, fun _ h => ⟨h, h, rfl, rfl⟩, fun _ _ => rfl⟩, fun _ _ => rfl⟩

theorem Shuf.trans {n : Nat} {e e' e'' : Nat → α} (h : Shuf n e e') (k : Shuf n e' e'') : Shuf n e e'' := by
  obtain ⟨⟨s, t, h1, h2⟩, h3⟩ := h
  obtain ⟨⟨u, v, k1, k2⟩, k3⟩ := k
  refine ⟨⟨fun i => s (u i), fun i => v (t i), fun i hi => ?_, fun i hi => (k2 i hi).trans (h2 _ (k1 i hi).1)⟩, fun i hi => (k3 i hi).trans (h3 i hi)⟩
  obtain ⟨a1, a2, a3, a4⟩ := k1 i hi
  obtain ⟨b1, b2, b3, b4⟩ := h1 i hi
  obtain ⟨c1, c2, c3, c4⟩ := k1 (t i) b2
  obtain ⟨d1, d2, d3, d4⟩ := h1 (u i) a1
  exact ⟨d1, c2, by show s (u (v (t i))) = i; rw [c3, b3], by show v (t (s (u i))) = i; rw [d4, a4]⟩

theorem Shuf.swap {n i j : Nat} (hi : i < n) (hj : j < n) (e : Nat → α) : Shuf n e (swapF e i j) := by
  have hs : ∀ k, k < n → (if k = i then j else if k = j then i else k) < n := fun k hk => by split; exact hj; split; exact hi; exact hk
  have hss : ∀ k, (if (if k = i then j else if k = j then i else k) = i then j else if (if k = i then j else if k = j then i else k) = j then i else (if k = i then j else if k = j then i else k)) = k := fun k => by
    by_cases h1 : k = i
    · subst h1
      rw [if_pos rfl]
      by_cases h2 : j = k
      · rw [if_pos h2]; exact h2
      · rw [if_neg h2, if_pos rfl]
    · rw [if_neg h1]
      by_cases h2 : k = j
      · subst h2
        rw [if_pos rfl, if_pos rfl]
      · rw [if_neg h2, if_neg h1, if_neg h2]
  refine ⟨⟨_, _, fun k hk => ⟨hs k hk, hs k hk, hss k, hss k⟩, fun k _ => ?_⟩, fun k hk => swapF_else e (by omega) (by omega)⟩
  unfold swapF
  split
  · rfl
  · split <;> rfl

theorem down_shuf (key : α → Int) (n : Nat) : ∀ (f i : Nat) (e : Nat → α), i < n → Shuf n e (downF key f e i n).1
  | 0, _, e, _ => .refl n e
  | f + 1, i, e, hi => by
    unfold downF
    by_cases hn : n ≤ 2 * i + 1
    · rw [if_pos hn]
      exact .refl n e
    rw [if_neg hn]
    obtain ⟨_, k2, _⟩ := childF_is key e (i := i) (n := n) (by omega)
    split
    · exact (Shuf.swap hi k2 e).trans (down_shuf key n f _ _ k2)
    · exact .refl n e

theorem up_shuf (key : α → Int) (n : Nat) : ∀ (f j : Nat) (e : Nat → α), j < n → Shuf n e (upF key f e j)
  | 0, _, e, _ => .refl n e
  | f + 1, j, e, hj => by
    unfold upF
    split
    · exact .refl n e
    · split
      · exact (Shuf.swap (by omega) hj e).trans (up_shuf key n f _ _ (by omega))
      · exact .refl n e

/-! ### A heap is made -/
/-- Down from each of k - 1, .., 0. -/
def initF (key : α → Int) (n : Nat) : Nat → (Nat → α) → (Nat → α)
  | 0, e => e
  | k + 1, e => initF key n k (downF key n e k n).1

theorem init_ok (key : α → Int) (n : Nat) : ∀ (k : Nat) (e : Nat → α), HeapOk key k n e → HeapOk key 0 n (initF key n k e)
  | 0, _, h => h
  | k + 1, e, h => by
    refine init_ok key n k _ (down_ok key k n n k e (Nat.le_refl _) (by omega) ⟨fun c h1 h2 h3 h4 => h c h1 h2 (by omega), fun h1 h2 => by omega⟩)

theorem init_start (key : α → Int) (n : Nat) (e : Nat → α) : HeapOk key (n / 2) n e := fun c _ _ h3 => by omega

theorem init_shuf (key : α → Int) (n : Nat) : ∀ (k : Nat) (e : Nat → α), k ≤ n → Shuf n e (initF key n k e)
  | 0, e, _ => .refl n e
  | k + 1, e, h => (down_shuf key n n k e (by omega)).trans (init_shuf key n k _ (by omega))

/-- The root's key grew: down from the root mends it. -/
theorem fix_root {key : α → Int} {n : Nat} {e : Nat → α} (h : ∀ c, 1 ≤ c → c < n → (c - 1) / 2 ≠ 0 → key (e ((c - 1) / 2)) ≤ key (e c)) : HeapOk key 0 n (downF key n e 0 n).1 :=
  down_ok key 0 n n 0 e (Nat.le_refl _) (by omega) ⟨fun c h1 h2 _ h4 => h c h1 h2 h4, fun h1 => by omega⟩
end

end Go.Proofs.Ytamiokleolfnoaa
