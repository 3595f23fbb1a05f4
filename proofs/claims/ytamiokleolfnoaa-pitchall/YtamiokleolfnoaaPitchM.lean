/- The best of many: in a sorted list that is cut off, and in a heap with the worst on top. Nothing here is of any program. -/
import Derived.Test.YtamiokleolfnoaaHeapM
namespace Go.Proofs.Ytamiokleolfnoaa
namespace Pit

section
variable {α : Type} (key : α → Int)

/-- The greatest first, no two alike. -/
def Desc (l : List α) : Prop := l.Pairwise (fun a b => key b < key a)

/-- Put in its place. -/
def insD (x : α) : List α → List α
  | [] => [x]
  | y :: l => if key x ≤ key y then y :: insD x l else x :: y :: l

theorem insD_len (x : α) : ∀ l : List α, (insD key x l).length = l.length + 1
  | [] => rfl
  | y :: l => by
    unfold insD
    split
    · show (insD key x l).length + 1 = l.length + 1 + 1
      rw [insD_len x l]
    · rfl

theorem mem_insD (x z : α) : ∀ l : List α, z ∈ insD key x l ↔ z = x ∨ z ∈ l
  | [] => by simp [insD]
  | y :: l => by
    unfold insD
    split
    · rw [List.mem_cons, List.mem_cons, mem_insD x z l]
      constructor
      · rintro (h | h | h)
        · exact .inr (.inl h)
        · exact .inl h
        · exact .inr (.inr h)
      · rintro (h | h | h)
        · exact .inr (.inl h)
        · exact .inl h
        · exact .inr (.inr h)
    · rw [List.mem_cons]

theorem insD_desc {x : α} : ∀ {l : List α}, Desc key l → (∀ y ∈ l, key y ≠ key x) → Desc key (insD key x l)
  | [], _, _ => by
    unfold insD Desc
    simp
  | y :: l, h, hx => by
    have h1 := List.pairwise_cons.1 h
    have hxy := hx y (by simp)
    unfold insD
    split
    · rename_i hle
      refine List.pairwise_cons.2 ⟨fun z hz => ?_, insD_desc h1.2 (fun z hz => hx z (List.mem_cons_of_mem _ hz))⟩
      rcases (mem_insD key x z l).1 hz with rfl | hz
      · omega
      · exact h1.1 z hz
    · rename_i hle
      refine List.pairwise_cons.2 ⟨fun z hz => ?_, h⟩
      rcases List.mem_cons.1 hz with rfl | hz
      · omega
      · have := h1.1 z hz
        omega

theorem insD_take (x : α) : ∀ (b : Nat) (l : List α), (insD key x (l.take b)).take b = (insD key x l).take b
  | 0, _ => rfl
  | b + 1, [] => rfl
  | b + 1, y :: l => by
    show (insD key x (y :: l.take b)).take (b + 1) = (insD key x (y :: l)).take (b + 1)
    unfold insD
    split
    · show y :: (insD key x (l.take b)).take b = y :: (insD key x l).take b
      rw [insD_take x b l]
    · show x :: (y :: l.take b).take b = x :: (y :: l).take b
      cases b with
      | zero => rfl
      | succ b =>
        show x :: y :: (l.take (b + 1)).take b = x :: y :: l.take b
        rw [List.take_take, Nat.min_eq_left (by omega)]

/-- Where it comes to lie. -/
theorem insD_split (x : α) : ∀ (l : List α) (k : Nat), k ≤ l.length → (∀ i (_ : i < k) (hl : i < l.length), key x ≤ key l[i]) → (∀ h : k < l.length, key l[k] < key x) → insD key x l = l.take k ++ x :: l.drop k
  | [], k, hk, _, _ => by
    obtain rfl : k = 0 := Nat.le_zero.1 hk
    rfl
  | y :: l, 0, _, _, h2 => by
    have := h2 (Nat.succ_pos _)
    have h3 : key y < key x := this
    unfold insD
    rw [if_neg (by omega)]
    rfl
  | y :: l, k + 1, hk, h1, h2 => by
    have h3 : key x ≤ key y := h1 0 (Nat.succ_pos _) (Nat.succ_pos _)
    unfold insD
    rw [if_pos h3, insD_split x l k (by simpa using hk) (fun i hi hl => h1 (i + 1) (by omega) (by simpa using hl)) (fun h => h2 (by simpa using h))]
    rfl

/-- All of them; the best so many of them, one put in behind the other. -/
def sortD : List α → List α → List α
  | l, [] => l
  | l, x :: s => sortD (insD key x l) s
def bestD (b : Nat) : List α → List α → List α
  | l, [] => l
  | l, x :: s => bestD b ((insD key x l).take b) s

theorem bestD_is (b : Nat) : ∀ (s l : List α), bestD key b (l.take b) s = (sortD key l s).take b
  | [], _ => rfl
  | x :: s, l => by
    show bestD key b ((insD key x (l.take b)).take b) s = (sortD key (insD key x l) s).take b
    rw [insD_take, bestD_is b s]

theorem sortD_len : ∀ (s l : List α), (sortD key l s).length = l.length + s.length
  | [], _ => rfl
  | x :: s, l => by
    show (sortD key (insD key x l) s).length = _
    rw [sortD_len s, insD_len, List.length_cons]
    omega

theorem mem_sortD (z : α) : ∀ (s l : List α), z ∈ sortD key l s ↔ z ∈ l ∨ z ∈ s
  | [], _ => by simp [sortD]
  | x :: s, l => by
    show z ∈ sortD key (insD key x l) s ↔ _
    rw [mem_sortD z s, mem_insD, List.mem_cons]
    constructor
    · rintro ((h | h) | h)
      · exact .inr (.inl h)
      · exact .inl h
      · exact .inr (.inr h)
    · rintro (h | h | h)
      · exact .inl (.inr h)
      · exact .inl (.inl h)
      · exact .inr h

theorem sortD_desc : ∀ (s l : List α), Desc key l → (∀ y ∈ l, ∀ x ∈ s, key y ≠ key x) → s.Pairwise (fun a b => key a ≠ key b) → Desc key (sortD key l s)
  | [], _, h, _, _ => h
  | x :: s, l, h, h1, h2 => by
    have h3 := List.pairwise_cons.1 h2
    refine sortD_desc s (insD key x l) (insD_desc key h fun y hy => h1 y hy x (by simp)) (fun y hy z hz => ?_) h3.2
    rcases (mem_insD key x y l).1 hy with rfl | hy
    · exact h3.1 z hz
    · exact h1 y hy z (by simp [hz])

theorem Desc.same {l : List α} (h : Desc key l) {i j : Nat} (hi : i < l.length) (hj : j < l.length) (he : key l[i] = key l[j]) : i = j := by
  have hp := List.pairwise_iff_getElem.1 h
  rcases Nat.lt_trichotomy i j with h1 | h1 | h1
  · have := hp i j hi hj h1
    omega
  · exact h1
  · have := hp j i hj hi h1
    omega

/-! ### In a heap -/
def atF (e : Nat → α) (n : Nat) (x : α) : Nat → α := fun k => if k = n then x else e k

/-- The heap holds just these. -/
structure Hold (e : Nat → α) (l : List α) : Prop where
  heap : HeapOk key 0 l.length e
  desc : Desc key l
  inj : ∀ i j, i < l.length → j < l.length → key (e i) = key (e j) → i = j
  mem : ∀ x, x ∈ l ↔ ∃ k, k < l.length ∧ e k = x

variable {key}
theorem Hold.nil (e : Nat → α) : Hold key e [] :=
  ⟨fun _ _ h _ => absurd h (Nat.not_lt_zero _), List.Pairwise.nil, fun _ _ h => absurd h (Nat.not_lt_zero _), fun x => ⟨fun h => (by cases h), fun ⟨_, h, _⟩ => absurd h (Nat.not_lt_zero _)⟩⟩

/-- In other places. -/
theorem inj_shuf {n : Nat} {e e' : Nat → α} (h : Shuf n e e') (hi : ∀ i j, i < n → j < n → key (e i) = key (e j) → i = j) : ∀ i j, i < n → j < n → key (e' i) = key (e' j) → i = j := fun i j h1 h2 h3 => by
  obtain ⟨⟨s, t, h4, h5⟩, _⟩ := h
  rw [h5 i h1, h5 j h2] at h3
  have h6 := hi _ _ (h4 i h1).1 (h4 j h2).1 h3
  have e1 := (h4 i h1).2.2.2
  have e2 := (h4 j h2).2.2.2
  rw [← e1, ← e2, h6]
theorem mem_shuf {n : Nat} {e e' : Nat → α} (h : Shuf n e e') (x : α) : (∃ k, k < n ∧ e' k = x) ↔ ∃ k, k < n ∧ e k = x := by
  obtain ⟨⟨s, t, h4, h5⟩, _⟩ := h
  constructor
  · rintro ⟨k, hk, rfl⟩
    exact ⟨s k, (h4 k hk).1, (h5 k hk).symm⟩
  · rintro ⟨k, hk, rfl⟩
    refine ⟨t k, (h4 k hk).2.1, ?_⟩
    rw [h5 _ (h4 k hk).2.1, (h4 k hk).2.2.1]

theorem Hold.push {e : Nat → α} {l : List α} (h : Hold key e l) {x : α} (hx : ∀ y ∈ l, key y ≠ key x) {f : Nat} (hf : l.length ≤ f) : Hold key (upF key f (atF e l.length x) l.length) (insD key x l) := by
  have hlen := insD_len key x l
  have hne : ∀ k, k < l.length → key (e k) ≠ key x := fun k hk => hx _ ((h.mem _).2 ⟨k, hk, rfl⟩)
  have hsh : Shuf (l.length + 1) (atF e l.length x) (upF key f (atF e l.length x) l.length) := up_shuf key (l.length + 1) f l.length _ (Nat.lt_succ_self _)
  have e1 : atF e l.length x l.length = x := if_pos rfl
  have e2 : ∀ k, k < l.length → atF e l.length x k = e k := fun k hk => if_neg (by omega)
  refine ⟨?_, insD_desc key h.desc hx, ?_, fun z => ?_⟩
  · rw [hlen]
    refine up_ok key (l.length + 1) f l.length _ hf (Nat.lt_succ_self _) ⟨fun c h1 h2 h3 => ?_, fun h0 c h1 h2 h3 => by omega⟩
    rw [e2 _ (by omega), e2 _ (by omega)]
    exact h.heap c h1 (by omega) (Nat.zero_le _)
  · rw [hlen]
    refine inj_shuf hsh fun i j hi hj he => ?_
    rcases Nat.lt_or_ge i l.length with h1 | h1 <;> rcases Nat.lt_or_ge j l.length with h2 | h2
    · rw [e2 i h1, e2 j h2] at he
      exact h.inj i j h1 h2 he
    · obtain rfl : j = l.length := by omega
      rw [e2 i h1, e1] at he
      exact absurd he (hne i h1)
    · obtain rfl : i = l.length := by omega
      rw [e2 j h2, e1] at he
      exact absurd he.symm (hne j h2)
    · omega
  · rw [hlen, mem_insD, mem_shuf hsh]
    constructor
    · rintro (rfl | hz)
      · exact ⟨l.length, Nat.lt_succ_self _, e1⟩
      · obtain ⟨k, hk, rfl⟩ := (h.mem _).1 hz
        exact ⟨k, by omega, e2 k hk⟩
    · rintro ⟨k, hk, rfl⟩
      rcases Nat.lt_or_ge k l.length with h1 | h1
      · rw [e2 k h1]
        exact .inr ((h.mem _).2 ⟨k, h1, rfl⟩)
      · obtain rfl : k = l.length := by omega
        exact .inl e1

/-- What is on top is the last. -/
theorem Hold.top {e : Nat → α} {l : List α} {n : Nat} (h : Hold key e l) (hl : l.length = n + 1) : l[n]? = some (e 0) := by
  have hn : n < l.length := by omega
  obtain ⟨k, hk, he⟩ := (h.mem l[n]).1 (List.getElem_mem hn)
  have h1 := root_least h.heap k k (Nat.le_refl _) hk
  obtain ⟨m, hm, hme⟩ := List.getElem_of_mem ((h.mem (e 0)).2 ⟨0, by omega, rfl⟩)
  have h2 : key l[n] ≤ key l[m] := by
    rcases Nat.lt_or_ge m n with h3 | h3
    · exact Int.le_of_lt (List.pairwise_iff_getElem.1 h.desc m n hm hn h3)
    · have e3 : m = n := by omega
      subst e3
      exact Int.le_refl _
  rw [← he, hme] at h2
  have h4 := h.inj 0 k (by omega) hk (by omega)
  rw [List.getElem?_eq_getElem hn, ← he, ← h4]

theorem Hold.pop {e : Nat → α} {l : List α} {n : Nat} (h : Hold key e l) (hl : l.length = n + 1) : Hold key (downF key n (swapF e 0 n) 0 n).1 l.dropLast ∧ (downF key n (swapF e 0 n) 0 n).1 n = e 0 := by
  have hn : n < l.length := by omega
  have hdl : l.dropLast.length = n := by rw [List.length_dropLast]; omega
  have htop := h.top hl
  rw [List.getElem?_eq_getElem hn, Option.some.injEq] at htop
  have hlast : (downF key n (swapF e 0 n) 0 n).1 n = e 0 := by
    rcases Nat.eq_zero_or_pos n with rfl | h0
    · exact swapF_left e 0 0
    · rw [(down_shuf key n n 0 (swapF e 0 n) h0).far n (Nat.le_refl _)]
      exact swapF_right e 0 n
  have hsh : n = 0 ∨ Shuf n (swapF e 0 n) (downF key n (swapF e 0 n) 0 n).1 := by
    rcases Nat.eq_zero_or_pos n with h0 | h0
    · exact .inl h0
    · exact .inr (down_shuf key n n 0 _ h0)
  have hs0 : ∀ k, 0 < k → k < n → swapF e 0 n k = e k := fun k h1 h2 => swapF_else e (by omega) (by omega)
  have hinj : ∀ i j, i < n → j < n → key (swapF e 0 n i) = key (swapF e 0 n j) → i = j := fun i j hi hj he => by
    rcases Nat.eq_zero_or_pos i with rfl | h1 <;> rcases Nat.eq_zero_or_pos j with rfl | h2
    · rfl
    · rw [swapF_left, hs0 j h2 hj] at he
      have := h.inj n j hn (by omega) he
      omega
    · rw [swapF_left, hs0 i h1 hi] at he
      have := h.inj i n (by omega) hn he
      omega
    · rw [hs0 i h1 hi, hs0 j h2 hj] at he
      exact h.inj i j (by omega) (by omega) he
  have hmem : ∀ z, z ∈ l.dropLast ↔ ∃ k, k < n ∧ swapF e 0 n k = z := fun z => by
    have hz1 : z ∈ l.dropLast ↔ z ∈ l ∧ z ≠ e 0 := by
      constructor
      · intro hz
        obtain ⟨m, hm, rfl⟩ := List.getElem_of_mem hz
        rw [hdl] at hm
        refine ⟨(List.dropLast_sublist l).subset hz, fun he => ?_⟩
        rw [List.getElem_dropLast, ← htop] at he
        have := Desc.same key h.desc (i := m) (j := n) (by omega) hn (by rw [he])
        omega
      · rintro ⟨hz, hne⟩
        obtain ⟨m, hm, rfl⟩ := List.getElem_of_mem hz
        have hmn : m ≠ n := fun hmn => hne (by subst hmn; exact htop)
        exact List.mem_iff_getElem.2 ⟨m, by omega, by rw [List.getElem_dropLast]⟩
    rw [hz1, h.mem]
    constructor
    · rintro ⟨⟨k, hk, rfl⟩, hne⟩
      have hk0 : k ≠ 0 := fun h0 => hne (by rw [h0])
      rcases Nat.lt_or_ge k n with h1 | h1
      · exact ⟨k, h1, hs0 k (by omega) h1⟩
      · obtain rfl : k = n := by omega
        exact ⟨0, by omega, swapF_left e 0 _⟩
    · rintro ⟨k, hk, rfl⟩
      rcases Nat.eq_zero_or_pos k with rfl | h1
      · rw [swapF_left]
        refine ⟨⟨n, hn, rfl⟩, fun he => ?_⟩
        have := h.inj n 0 hn (by omega) (by rw [he])
        omega
      · rw [hs0 k h1 hk]
        refine ⟨⟨k, by omega, rfl⟩, fun he => ?_⟩
        have := h.inj k 0 (by omega) (by omega) (by rw [he])
        omega
  refine ⟨⟨?_, ?_, ?_, ?_⟩, hlast⟩
  · rw [hdl]
    have hheap := h.heap
    rw [hl] at hheap
    refine fix_root (n := n) fun c h1 h2 h3 => ?_
    rw [swapF_else e (by omega) (by omega), swapF_else e (by omega) (by omega)]
    exact hheap c h1 (by omega) (Nat.zero_le _)
  · exact List.Pairwise.sublist (List.dropLast_sublist l) h.desc
  · rw [hdl]
    rcases hsh with h0 | hsh
    · intro i j hi
      omega
    · exact inj_shuf hsh hinj
  · intro z
    rw [hdl, hmem z]
    rcases hsh with h0 | hsh
    · constructor
      · rintro ⟨k, hk, _⟩
        omega
      · rintro ⟨k, hk, _⟩
        omega
    · exact (mem_shuf hsh z).symm
end

end Pit
end Go.Proofs.Ytamiokleolfnoaa
