/- Frequencies told by an index, and the index found: plain, over package tabs' own numbers. -/
import Derived.Test.YtjaccokmficfdaaMA
import Derived.Test.YtjaccokmficfdaaLsfM
namespace Go.Proofs.Ytjaccokmficfdaa

def apartB : Int → List Int → Bool
  | _, [] => true
  | was, x :: l => decide (was + 250 ≤ x) && apartB x l
theorem apart_ofB : ∀ (l : List Int) (was : Int), apartB was l = true → Apart was l
  | [], _, _ => trivial
  | x :: l, was, h => by
    have h' : (decide (was + 250 ≤ x) && apartB x l) = true := h
    rw [Bool.and_eq_true] at h'
    exact ⟨of_decide_eq_true h'.1, apart_ofB l x h'.2⟩
def lowB (l : List Int) : Bool := l.all fun x => decide (x ≤ 32518)
theorem low_ofB {l : List Int} (h : lowB l = true) : ∀ x ∈ l, x ≤ 32518 := fun x hx => of_decide_eq_true (List.all_eq_true.1 h x hx)

theorem rows_ten : ∀ i : Nat, i < 16 → apartB 0 (lsfL 10 (i : Int)) = true ∧ lowB (lsfL 10 (i : Int)) = true := by decide +kernel
theorem rows_sixteen : ∀ i : Nat, i < 16 → apartB 0 (lsfL 16 (i : Int)) = true ∧ lowB (lsfL 16 (i : Int)) = true := by decide +kernel
/-- The first table's frequencies rise apart. -/
theorem lsf_apart {order i : Int} (h : order = 10 ∨ order = 16) (h0 : 0 ≤ i) (h1 : i ≤ 15) : Apart 0 (lsfL order i) ∧ ∀ x ∈ lsfL order i, x ≤ 32518 := by
  obtain ⟨n, rfl⟩ := Int.eq_ofNat_of_zero_le h0
  rcases h with rfl | rfl
  · exact ⟨apart_ofB _ _ (rows_ten n (by omega)).1, low_ofB (rows_ten n (by omega)).2⟩
  · exact ⟨apart_ofB _ _ (rows_sixteen n (by omega)).1, low_ofB (rows_sixteen n (by omega)).2⟩
theorem lsf_steady {order i : Int} (h : order = 10 ∨ order = 16) (h0 : 0 ≤ i) (h1 : i ≤ 15) : steadyZ (lsfL order i) = lsfL order i := steadyZ_same (lsf_apart h h0 h1).1 (lsf_apart h h0 h1).2
theorem lsfAt_in {order i : Int} (h : order = 10 ∨ order = 16) (h0 : 0 ≤ i) (h1 : i ≤ 15) {k : Nat} (hk : k < order.toNat) : 250 ≤ lsfAt order i k ∧ lsfAt order i k ≤ 32518 := by
  have hm : lsfAt order i k ∈ lsfL order i := by
    rw [lsf_some h h0 h1]
    exact List.mem_map.2 ⟨k, List.mem_range.2 hk, rfl⟩
  have h2 := apart_low _ 0 (lsf_apart h h0 h1).1 _ hm
  exact ⟨by omega, (lsf_apart h h0 h1).2 _ hm⟩

def stepZ (order : Int) : Int := if order = 10 then 400 else 250
theorem stepZ_in (order : Int) : stepZ order = 400 ∨ stepZ order = 250 := by unfold stepZ; split <;> simp
/-- May the index be? -/
def GoodX (order one : Int) (two : List Int) : Prop := (order = 10 ∨ order = 16) ∧ 0 ≤ one ∧ one ≤ 15 ∧ (two.length : Int) = order ∧ ∀ x ∈ two, -4 ≤ x ∧ x ≤ 4
def rawZ (order one : Int) (two : List Int) (k : Nat) : Int := lsfAt order one k + stepZ order * (two[k]?.getD 0)
def decodeZ (order one : Int) (two : List Int) : List Int := steadyZ ((List.range order.toNat).map (rawZ order one two))
theorem decodeZ_len (order one : Int) (two : List Int) : (decodeZ order one two).length = order.toNat := by
  unfold decodeZ; rw [steadyZ_len, List.length_map, List.length_range]
theorem rawZ_in {order one : Int} {two : List Int} (h : GoodX order one two) {k : Nat} (hk : k < order.toNat) : -1350 ≤ rawZ order one two k ∧ rawZ order one two k ≤ 34118 := by
  obtain ⟨h1, h2, h3, h4, h5⟩ := h
  have h6 := lsfAt_in h1 h2 h3 hk
  have hl : k < two.length := by omega
  have h7 := h5 (two[k]?.getD 0) (by rw [List.getElem?_eq_getElem hl]; exact List.getElem_mem _)
  unfold rawZ
  rcases stepZ_in order with e | e <;> rw [e] <;> omega
theorem decodeZ_apart {order one : Int} {two : List Int} (h : GoodX order one two) : Apart 0 (decodeZ order one two) ∧ ∀ x ∈ decodeZ order one two, x ≤ 32518 :=
  steadyZ_apart (by rw [List.length_map, List.length_range]; obtain ⟨h1, _⟩ := h; omega)
theorem decodeZ_plain {order one : Int} {two : List Int} (h : GoodX order one two) (h0 : ∀ x ∈ two, x = 0) : decodeZ order one two = lsfL order one := by
  obtain ⟨h1, h2, h3, h4, h5⟩ := h
  have e : (List.range order.toNat).map (rawZ order one two) = lsfL order one := by
    rw [lsf_some h1 h2 h3]
    refine List.map_congr_left fun k hk => ?_
    have hl : k < two.length := by have := List.mem_range.1 hk; omega
    have h6 : two[k]?.getD 0 = 0 := h0 _ (by rw [List.getElem?_eq_getElem hl]; exact List.getElem_mem _)
    unfold rawZ
    rw [h6]
    omega
  unfold decodeZ
  rw [e, lsf_steady h1 h2 h3]

/-- What is wanted, number by number. -/
def wantZ (want : List Int) (k : Nat) : Int := clZ 0 32768 (want[k]?.getD 0)
theorem clZ_in (x : Int) : 0 ≤ clZ 0 32768 x ∧ clZ 0 32768 x ≤ 32768 := by unfold clZ; split <;> (try split) <;> omega
def farZ (order : Int) (want : List Int) (i : Nat) : Int := sqN (lsfAt order (i : Int)) (wantZ want) order.toNat
def oneZ (order : Int) (want : List Int) : Nat := bestN (farZ order want) 16
def twosZ (order : Int) (want : List Int) : List Int := (List.range order.toNat).map fun k => twoZ (stepZ order) (wantZ want k - lsfAt order (oneZ order want : Nat) k)
theorem oneZ_lt (order : Int) (want : List Int) : oneZ order want < 16 := bestN_lt _ 15
theorem twosZ_len (order : Int) (want : List Int) : (twosZ order want).length = order.toNat := by unfold twosZ; rw [List.length_map, List.length_range]
theorem twosZ_at {order : Int} {want : List Int} {k : Nat} (hk : k < order.toNat) : (twosZ order want)[k]?.getD 0 = twoZ (stepZ order) (wantZ want k - lsfAt order (oneZ order want : Nat) k) := map_range_at _ _ _ hk
theorem found_good {order : Int} (h : order = 10 ∨ order = 16) (want : List Int) : GoodX order (oneZ order want : Nat) (twosZ order want) := by
  have h1 := oneZ_lt order want
  refine ⟨h, by omega, by omega, by rw [twosZ_len]; omega, fun x hx => ?_⟩
  obtain ⟨k, _, rfl⟩ := List.mem_map.1 hx
  exact twoZ_in _ _
/-- The index found tells each number no farther than the first table's own. -/
theorem found_near (order : Int) (want : List Int) {k : Nat} (hk : k < order.toNat) : (rawZ order (oneZ order want : Nat) (twosZ order want) k - wantZ want k).natAbs ≤ (lsfAt order (oneZ order want : Nat) k - wantZ want k).natAbs := by
  have h1 := twoZ_near (stepZ order) (wantZ want k - lsfAt order (oneZ order want : Nat) k) (stepZ_in order)
  unfold rawZ
  rw [twosZ_at hk]
  omega
theorem oneZ_le (order : Int) (want : List Int) {j : Nat} (hj : j < 16) : farZ order want (oneZ order want) ≤ farZ order want j := by
  unfold oneZ
  exact bestN_le _ 16 j hj
theorem farZ_nonneg (order : Int) (want : List Int) (j : Nat) : 0 ≤ farZ order want j := by unfold farZ; exact sqN_nonneg _ _ _
theorem farZ_zero {order : Int} {want : List Int} {j : Nat} (h : farZ order want j = 0) : ∀ k, k < order.toNat → lsfAt order (j : Int) k = wantZ want k := by
  unfold farZ at h
  exact sqN_zero _ h
theorem farZ_same {order : Int} {want : List Int} {j : Nat} (h : ∀ k, k < order.toNat → lsfAt order (j : Int) k = wantZ want k) : farZ order want j = 0 := by
  unfold farZ
  exact sqN_same _ h
theorem wantZ_own {order i : Int} (h : order = 10 ∨ order = 16) (h0 : 0 ≤ i) (h1 : i ≤ 15) {k : Nat} (hk : k < order.toNat) : wantZ (lsfL order i) k = lsfAt order i k := by
  have h2 := lsfAt_in h h0 h1 hk
  unfold wantZ
  rw [lsf_some h h0 h1, map_range_at _ _ _ hk]
  generalize lsfAt order i k = x at *
  unfold clZ
  rw [if_neg (by omega), if_neg (by omega)]
/-- Frequencies of the first table are found as themselves. -/
theorem own_found {order : Int} (h : order = 10 ∨ order = 16) {i : Nat} (hi : i < 16) : decodeZ order (oneZ order (lsfL order (i : Int)) : Nat) (twosZ order (lsfL order (i : Int))) = lsfL order (i : Int) := by
  have hw : ∀ k, k < order.toNat → wantZ (lsfL order (i : Int)) k = lsfAt order (i : Int) k := fun k hk => wantZ_own h (by omega) (by omega) hk
  have h2 : farZ order (lsfL order (i : Int)) (oneZ order (lsfL order (i : Int))) = 0 :=
    Int.le_antisymm (Int.le_trans (oneZ_le _ _ hi) (Int.le_of_eq (farZ_same fun k hk => (hw k hk).symm))) (farZ_nonneg _ _ _)
  have h3 := farZ_zero h2
  have h5 := oneZ_lt order (lsfL order (i : Int))
  have hg := found_good h (lsfL order (i : Int))
  have ht : ∀ x ∈ twosZ order (lsfL order (i : Int)), x = 0 := fun x hx => by
    unfold twosZ at hx
    obtain ⟨k, hk, rfl⟩ := List.mem_map.1 hx
    rw [h3 k (List.mem_range.1 hk), Int.sub_self]
    exact twoZ_zero _ (stepZ_in order)
  rw [decodeZ_plain hg ht]
  generalize oneZ order (lsfL order (i : Int)) = b at *
  rw [lsf_some h (i := (b : Int)) (by omega) (by omega)]
  refine Eq.trans (List.map_congr_left fun k hk => ?_) (lsf_some h (i := (i : Int)) (by omega) (by omega)).symm
  rw [h3 k (List.mem_range.1 hk)]
  exact hw k (List.mem_range.1 hk)

end Go.Proofs.Ytjaccokmficfdaa
