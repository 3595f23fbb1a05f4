/- Texts put together: PulseA PulseB PulseC PulseD. -/
import Derived.Test.YtdbgcbbfnjoebaaMA
import Derived.Test.YtdbgcbbfnjoebaaHeapM
import Derived.Test.YtdbgcbbfnjoebaaLastOp
import Derived.Handy
import Derived.Deep.AppendLies
import Derived.Deep.RegionLaw
/- Package pulse, the heap's samples in memory: what stands where, and the heap's own methods. -/
namespace Go.Proofs.Ytdbgcbbfnjoebaa
open Go.RowKit

/-- A sample: its place, its pulses. -/
abbrev Sam := Int × Int
def samCell (x : Sam) : Nat → Value
  | 0 => .int .i64 x.1
  | _ => .int .i64 x.2
def hcell (e : Nat → Sam) (j : Nat) : Value := samCell (e (j / 2)) (j % 2)
def hvals (e : Nat → Sam) (n : Nat) : List Value := (List.range (n * 2)).map (hcell e)

theorem hcell0 (e : Nat → Sam) (i : Nat) : hcell e (i * 2) = .int .i64 (e i).1 := by
  unfold hcell
  rw [show i * 2 / 2 = i by omega, show i * 2 % 2 = 0 by omega]
  rfl
theorem hcell1 (e : Nat → Sam) (i : Nat) : hcell e (i * 2 + 1) = .int .i64 (e i).2 := by
  unfold hcell
  rw [show (i * 2 + 1) / 2 = i by omega, show (i * 2 + 1) % 2 = 1 by omega]
  rfl

theorem hvals_len (e : Nat → Sam) (n : Nat) : (hvals e n).length = n * 2 := by unfold hvals; rw [List.length_map, List.length_range]
theorem hvals_at (e : Nat → Sam) {n j : Nat} (h : j < n * 2) : (hvals e n)[j]? = some (hcell e j) := by
  unfold hvals
  rw [List.getElem?_map, List.getElem?_range h]
  rfl
theorem hvals_snoc (e : Nat → Sam) (n : Nat) : hvals e (n + 1) = hvals e n ++ [.int .i64 (e n).1, .int .i64 (e n).2] := by
  unfold hvals
  rw [show (n + 1) * 2 = n * 2 + 1 + 1 by omega, List.range_succ, List.range_succ, List.map_append, List.map_append, List.append_assoc]
  show _ ++ ([hcell e (n * 2)] ++ [hcell e (n * 2 + 1)]) = _
  rw [hcell0, hcell1]
  rfl
theorem hvals_take (e : Nat → Sam) (n : Nat) : (hvals e (n + 1)).take (n * 2) = hvals e n := by
  rw [hvals_snoc, List.take_append_of_le_length (by rw [hvals_len]; exact Nat.le_refl _), List.take_of_length_le (by rw [hvals_len]; exact Nat.le_refl _)]
theorem hvals_congr {e f : Nat → Sam} {n : Nat} (h : ∀ i, i < n → e i = f i) : hvals e n = hvals f n := by
  unfold hvals
  refine List.map_congr_left fun j hj => ?_
  have := List.mem_range.1 hj
  unfold hcell
  rw [h (j / 2) (by omega)]

/-- A row of samples in a block of its own. -/
def SRow (B : Nat) (w : World) (g n cap : Nat) (e : Nat → Sam) : Prop := w.ownsRow B 84 2 (.slice (some ⟨g, 0, none⟩) n cap) n (hvals e n)

theorem SRow.block {B g n cap : Nat} {w : World} {e : Nat → Sam} (h : SRow B w g n cap e) : ∃ cur : Array Value, B ≤ g ∧ w.heap[g]? = some (.cells cur 84 (0, 0)) ∧ n ≤ cap ∧ cap ≤ maxLen ∧ cur.size = cap * 2 ∧ cur.toList.take (n * 2) = hvals e n := by
  obtain ⟨_, h | ⟨g', cap', cur, hv, h1, h2, h3, h4, h5, h6⟩⟩ := h
  · cases h.1
  · cases hv
    exact ⟨cur, h1, h2, h3, h4, h5, h6⟩

theorem SRow.of_block {B g n cap : Nat} {w : World} {e : Nat → Sam} {cur : Array Value} (h1 : B ≤ g) (h2 : w.heap[g]? = some (.cells cur 84 (0, 0))) (h3 : n ≤ cap) (h4 : cap ≤ maxLen) (h5 : cur.size = cap * 2) (h6 : cur.toList.take (n * 2) = hvals e n) : SRow B w g n cap e :=
  ⟨hvals_len e n, .inr ⟨g, cap, cur, rfl, h1, h2, h3, h4, h5, h6⟩⟩

theorem SRow.cell {B g n cap : Nat} {w : World} {e : Nat → Sam} (h : SRow B w g n cap e) {j : Nat} (hj : j < n * 2) : w.cell? ⟨g, j, none⟩ = some (hcell e j) := by
  obtain ⟨cur, _, h2, h3, _, h5, h6⟩ := h.block
  have hc : cur[j]? = some (hcell e j) := by
    have := hvals_at e hj
    rw [← h6, List.getElem?_take_of_lt hj] at this
    simpa using this
  simp [World.cell?, h2, hc]

theorem SRow.cells {B g n cap : Nat} {w : World} {e : Nat → Sam} (h : SRow B w g n cap e) {i : Nat} (hi : i < n) : w.cell? ⟨g, i * 2, none⟩ = some (.int .i64 (e i).1) ∧ w.cell? ⟨g, i * 2 + 1, none⟩ = some (.int .i64 (e i).2) := by
  rw [h.cell (by omega), h.cell (by omega), hcell0, hcell1]
  exact ⟨rfl, rfl⟩

theorem SRow.frozen {B g n cap : Nat} {w : World} {e : Nat → Sam} (h : SRow B w g n cap e) (j : Nat) : w.frozen? ⟨g, j, none⟩ = false := by
  obtain ⟨cur, _, h2, _⟩ := h.block
  simp [World.frozen?, h2]

theorem SRow.lt {B g n cap : Nat} {w : World} {e : Nat → Sam} (h : SRow B w g n cap e) : g < w.heap.size := by
  obtain ⟨cur, _, h2, _⟩ := h.block
  exact (Array.getElem?_eq_some_iff.1 h2).1

theorem SRow.keep {B g n cap : Nat} {w w' : World} {e : Nat → Sam} (h : SRow B w g n cap e) (hb : w'.heap[g]? = w.heap[g]?) : SRow B w' g n cap e := by
  obtain ⟨cur, h1, h2, h3, h4, h5, h6⟩ := h.block
  exact .of_block h1 (hb.trans h2) h3 h4 h5 h6

/-- Two cells of one sample are written. -/
def putF (e : Nat → Sam) (i : Nat) (x : Sam) : Nat → Sam := fun k => if k = i then x else e k

theorem SRow.set0 {B g n cap : Nat} {w : World} {e : Nat → Sam} (h : SRow B w g n cap e) {i : Nat} (hi : i < n) (z : Int) : SRow B (w.setCell ⟨g, i * 2, none⟩ (.int .i64 z)) g n cap (putF e i (z, (e i).2)) := by
  obtain ⟨cur, h1, h2, h3, h4, h5, h6⟩ := h.block
  refine .of_block (cur := cur.setIfInBounds (i * 2) (.int .i64 z)) h1 (by simp [World.setCell, Array.getElem?_modify, h2]) h3 h4 (by simp [h5]) ?_
  apply List.ext_getElem?
  intro j
  by_cases hj : j < n * 2
  · rw [hvals_at _ hj, List.getElem?_take_of_lt hj]
    have hc : cur[j]? = some (hcell e j) := by
      have := hvals_at e hj
      rw [← h6, List.getElem?_take_of_lt hj] at this
      simpa using this
    by_cases hji : j = i * 2
    · subst hji
      rw [hcell0]
      have : i * 2 < cur.size := by rw [h5]; omega
      simp [putF, this]
    · have e1 : (cur.setIfInBounds (i * 2) (.int .i64 z)).toList[j]? = cur[j]? := by
        rw [Array.getElem?_toList, Array.getElem?_setIfInBounds_ne (by omega)]
      rw [e1, hc]
      unfold hcell putF
      by_cases hk : j / 2 = i
      · rw [if_pos hk, show j % 2 = 1 by omega, hk]; rfl
      · rw [if_neg hk]
  · rw [List.getElem?_eq_none (by rw [List.length_take]; omega), List.getElem?_eq_none (by rw [hvals_len]; omega)]

theorem SRow.set1 {B g n cap : Nat} {w : World} {e : Nat → Sam} (h : SRow B w g n cap e) {i : Nat} (hi : i < n) (z : Int) : SRow B (w.setCell ⟨g, i * 2 + 1, none⟩ (.int .i64 z)) g n cap (putF e i ((e i).1, z)) := by
  obtain ⟨cur, h1, h2, h3, h4, h5, h6⟩ := h.block
  refine .of_block (cur := cur.setIfInBounds (i * 2 + 1) (.int .i64 z)) h1 (by simp [World.setCell, Array.getElem?_modify, h2]) h3 h4 (by simp [h5]) ?_
  apply List.ext_getElem?
  intro j
  by_cases hj : j < n * 2
  · rw [hvals_at _ hj, List.getElem?_take_of_lt hj]
    have hc : cur[j]? = some (hcell e j) := by
      have := hvals_at e hj
      rw [← h6, List.getElem?_take_of_lt hj] at this
      simpa using this
    by_cases hji : j = i * 2 + 1
    · subst hji
      rw [hcell1]
      have : i * 2 + 1 < cur.size := by rw [h5]; omega
      simp [putF, this]
    · have e1 : (cur.setIfInBounds (i * 2 + 1) (.int .i64 z)).toList[j]? = cur[j]? := by
        rw [Array.getElem?_toList, Array.getElem?_setIfInBounds_ne (by omega)]
      rw [e1, hc]
      unfold hcell putF
      by_cases hk : j / 2 = i
      · rw [if_pos hk, show j % 2 = 0 by omega, hk]; rfl
      · rw [if_neg hk]
  · rw [List.getElem?_eq_none (by rw [List.length_take]; omega), List.getElem?_eq_none (by rw [hvals_len]; omega)]

/-! ### Less, Len -/
def lessS (x y : Sam) : Bool := if x.2 = y.2 then decide (y.1 < x.1) else decide (y.2 < x.2)

theorem len_any (a : Option Addr) (n cap : Nat) (w : World) : Calls Try.prog 96 #[.slice a n cap] w fun e w' => e = .returned (.int .i64 n) ∧ w' = w := by
  go_enter Try.func96, Try.ntmps96
  go_wp2
  go_ret
  exact ⟨rfl, rfl⟩

theorem less_any {B g n cap : Nat} {w : World} {e : Nat → Sam} (h : SRow B w g n cap e) {i j : Nat} (hi : i < n) (hj : j < n) :
    Calls Try.prog 97 #[.slice (some ⟨g, 0, none⟩) n cap, .int .i64 i, .int .i64 j] w fun e' w' => e' = .returned (.bool (lessS (e i) (e j))) ∧ ∃ k, w' = w.drewN k := by
  obtain ⟨a0, a1⟩ := h.cells hi
  obtain ⟨b0, b1⟩ := h.cells hj
  obtain ⟨x, hx⟩ : ∃ x, e i = x := ⟨_, rfl⟩
  obtain ⟨y, hy⟩ : ∃ y, e j = y := ⟨_, rfl⟩
  rw [hx] at a0 a1 ⊢
  rw [hy] at b0 b1 ⊢
  obtain ⟨x1, x2⟩ := x
  obtain ⟨y1, y2⟩ := y
  clear hx hy h
  have hi2 : ((i : Int) < n) := by omega
  have hj2 : ((j : Int) < n) := by omega
  by_cases h0 : x2 = y2
  · have H0 : Hid (lessS (x1, x2) (y1, y2) = decide (y1 < x1)) := if_pos h0
    have hne : (x2 == y2) = true := beq_iff_eq.2 h0
    clear h0
    rw [H0.out]
    go_enter Try.func97, Try.ntmps97
    go_wp2
    go_quiet (fail)
    go_wp2
    go_quiet (fail)
    go_wp2
    go_ret
    rw [World.drewN_drewN]
    exact ⟨rfl, _, rfl⟩
  · have H0 : Hid (lessS (x1, x2) (y1, y2) = decide (y2 < x2)) := if_neg h0
    have hne : (x2 == y2) = false := beq_eq_false_iff_ne.2 h0
    clear h0
    rw [H0.out]
    go_enter Try.func97, Try.ntmps97
    go_wp2
    go_quiet (fail)
    go_wp2
    go_quiet (fail)
    go_wp2
    go_ret
    rw [World.drewN_drewN]
    exact ⟨rfl, _, rfl⟩


/-- Two samples change their places. -/
theorem swap_any {B g n cap : Nat} {w : World} {e : Nat → Sam} (h : SRow B w g n cap e) {i j : Nat} (hi : i < n) (hj : j < n) :
    Calls Try.prog 100 #[.slice (some ⟨g, 0, none⟩) n cap, .int .i64 i, .int .i64 j] w fun e' w' => e' = .returned (.tuple #[]) ∧ SRow B w' g n cap (swapF e i j) ∧ (∀ k, k ≠ g → w'.heap[k]? = w.heap[k]?) ∧ Below B w w' := by
  have HH : Hid (SRow B w g n cap e) := h
  obtain ⟨a0, a1⟩ := h.cells hi
  obtain ⟨b0, b1⟩ := h.cells hj
  have hf := h.frozen
  obtain ⟨x, hx⟩ : ∃ x, e i = x := ⟨_, rfl⟩
  obtain ⟨y, hy⟩ : ∃ y, e j = y := ⟨_, rfl⟩
  rw [hx] at a0 a1
  rw [hy] at b0 b1
  obtain ⟨x1, x2⟩ := x
  obtain ⟨y1, y2⟩ := y
  clear h
  have HX : Hid (e i = (x1, x2) ∧ e j = (y1, y2)) := ⟨hx, hy⟩
  clear hx hy
  have hi2 : ((i : Int) < n) := by omega
  have hj2 : ((j : Int) < n) := by omega
  obtain ⟨u1, k1⟩ : ∃ u, (w.setCell ⟨g, i * 2, none⟩ (.int .i64 y1)).cell? ⟨g, j * 2, none⟩ = some u := ⟨_, ((HH.out.set0 hi y1).cells hj).1⟩
  obtain ⟨u2, k2⟩ : ∃ u, ((w.setCell ⟨g, i * 2, none⟩ (.int .i64 y1)).setCell ⟨g, i * 2 + 1, none⟩ (.int .i64 y2)).cell? ⟨g, j * 2 + 1, none⟩ = some u := ⟨_, (((HH.out.set0 hi y1).set1 hi y2).cells hj).2⟩
  go_enter Try.func100, Try.ntmps100
  go_wp2
  go_region
  go_end0
  have h4 := (((HH.out.set0 hi y1).set1 hi y2).set0 hj x1).set1 hj x2
  obtain ⟨_, hBg, _⟩ := HH.out.block
  refine ⟨rfl, ?_, fun k hk => by simp [World.setCell, World.drew, Array.getElem?_modify, show g ≠ k from fun e => hk e.symm], (((((Below.refl B w).setCell hBg _).setCell hBg _).setCell hBg _).setCell hBg _).drew⟩
  show SRow B _ g n cap _
  have he : hvals (swapF e i j) n = hvals (putF (putF (putF (putF e i (y1, (e i).2)) i ((putF e i (y1, (e i).2) i).1, y2)) j (x1, (putF (putF e i (y1, (e i).2)) i ((putF e i (y1, (e i).2) i).1, y2) j).2)) j ((putF (putF (putF e i (y1, (e i).2)) i ((putF e i (y1, (e i).2) i).1, y2)) j (x1, (putF (putF e i (y1, (e i).2)) i ((putF e i (y1, (e i).2) i).1, y2) j).2) j).1, x2)) n := by
    refine hvals_congr fun k _ => ?_
    obtain ⟨q1, q2⟩ := HX.out
    unfold swapF putF
    by_cases hkj : k = j
    · subst hkj
      by_cases hki : k = i
      · subst hki
        rw [q1] at q2
        cases q2
        simp [q1]
      · simp [hki, q1]
    · by_cases hki : k = i
      · subst hki
        simp [hkj, q2]
      · simp [hkj, hki]
  unfold SRow
  rw [he]
  exact h4

/-! ### The heap behind a pointer -/
/-- At p lies a slice of n samples, in new memory. -/
structure HpV (B p n : Nat) (v : Value) (e : Nat → Sam) (w : World) : Prop where
  cell : w.heap[p]? = some (.cells #[v] 81 (0, 0))
  low : B ≤ p
  row : w.ownsRow B 84 2 v n (hvals e n)
  far : v.ownBlock ≠ some p
def Hp (B p n : Nat) (e : Nat → Sam) (w : World) : Prop := ∃ v, HpV B p n v e w

theorem HpV.lt {B p n : Nat} {v : Value} {e : Nat → Sam} {w : World} (h : HpV B p n v e w) : p < w.heap.size := (Array.getElem?_eq_some_iff.1 h.cell).1
theorem HpV.at {B p n : Nat} {v : Value} {e : Nat → Sam} {w : World} (h : HpV B p n v e w) : w.cell? ⟨p, 0, none⟩ = some v := by simp [World.cell?, h.cell]
theorem HpV.frozen {B p n : Nat} {v : Value} {e : Nat → Sam} {w : World} (h : HpV B p n v e w) : w.frozen? ⟨p, 0, none⟩ = false := by simp [World.frozen?, h.cell]
theorem HpV.drew {B p n : Nat} {v : Value} {e : Nat → Sam} {w : World} (h : HpV B p n v e w) : HpV B p n v e w.drew := ⟨h.cell, h.low, h.row, h.far⟩
theorem HpV.drewN {B p n : Nat} {v : Value} {e : Nat → Sam} {w : World} (h : HpV B p n v e w) (k : Nat) : HpV B p n v e (w.drewN k) := ⟨h.cell, h.low, h.row, h.far⟩
theorem Hp.drewN {B p n : Nat} {e : Nat → Sam} {w : World} (h : Hp B p n e w) (k : Nat) : Hp B p n e (w.drewN k) := by obtain ⟨v, h⟩ := h; exact ⟨v, h.drewN k⟩
theorem Hp.drew {B p n : Nat} {e : Nat → Sam} {w : World} (h : Hp B p n e w) : Hp B p n e w.drew := by obtain ⟨v, h⟩ := h; exact ⟨v, h.drew⟩

theorem ownBlock_row {w : World} {B : Nat} {e : TypeId} {z : Nat} {v : Value} {n : Nat} {xs : List Value} (h : w.ownsRow B e z v n xs) {k : Nat} (hk : v.ownBlock = some k) : B ≤ k ∧ k < w.heap.size := by
  obtain ⟨_, h1 | ⟨g, cap, cur, hv, hB, hh, _⟩⟩ := h
  · rw [h1.1] at hk; cases hk
  · rw [hv] at hk
    cases hk
    exact ⟨hB, (Array.getElem?_eq_some_iff.1 hh).1⟩

theorem row_of_block {w w' : World} {v : Value} {n : Nat} {xs : List Value} {B : Nat} {e : TypeId} {z : Nat} (h : w.ownsRow B e z v n xs) (hb : ∀ k, v.ownBlock = some k → w'.heap[k]? = w.heap[k]?) : w'.ownsRow B e z v n xs := by
  obtain ⟨hl, h⟩ := h
  refine ⟨hl, ?_⟩
  rcases h with h | ⟨g, cap, cur, rfl, hg, hh, hrest⟩
  · exact .inl h
  · exact .inr ⟨g, cap, cur, rfl, hg, (hb g rfl).trans hh, hrest⟩

/-- With samples in it the slice leads to a block. -/
theorem HpV.inRow {B p n : Nat} {v : Value} {e : Nat → Sam} {w : World} (h : HpV B p n v e w) (hn : 0 < n) : ∃ g cap, v = .slice (some ⟨g, 0, none⟩) n cap ∧ g ≠ p ∧ SRow B w g n cap e := by
  obtain ⟨hl, h1 | ⟨g, cap, cur, hv, hrest⟩⟩ := h.row
  · omega
  · refine ⟨g, cap, hv, fun e => h.far (by rw [hv, e]; rfl), ?_⟩
    subst hv
    exact h.row

theorem HpV.slice {B p n : Nat} {v : Value} {e : Nat → Sam} {w : World} (h : HpV B p n v e w) : ∃ a cap, v = .slice a n cap := by
  obtain ⟨hl, h1 | ⟨g, cap, cur, hv, hrest⟩⟩ := h.row
  · exact ⟨none, 0, by rw [h1.1, h1.2]⟩
  · exact ⟨_, cap, hv⟩

theorem HpV.far' {B p n g cap : Nat} {e : Nat → Sam} {w : World} (h : HpV B p n (.slice (some ⟨g, 0, none⟩) n cap) e w) : p ≠ g := fun e => h.far (by rw [e]; rfl)

theorem HpV.keep {B p n : Nat} {v : Value} {e : Nat → Sam} {w w' : World} (h : HpV B p n v e w) (hb : Below w.heap.size w w') : HpV B p n v e w' :=
  ⟨(hb.block p h.lt).trans h.cell, h.low, row_of_block h.row fun k hk => hb.block k (ownBlock_row h.row hk).2, h.far⟩

theorem Hp.keep {B p n : Nat} {e : Nat → Sam} {w w' : World} (h : Hp B p n e w) (hb : Below w.heap.size w w') : Hp B p n e w' := by obtain ⟨v, h⟩ := h; exact ⟨v, h.keep hb⟩

theorem info_sample : ∃ i, Try.prog.info? 84 = some i ∧ i.zero = some (.agg #[.int .i64 0, .int .i64 0]) ∧ i.size = 2 ∧ i.bytes = 16 := by
  have h : (Try.prog.info? 84).map (fun i => (i.zero, i.size, i.bytes)) = some (some (.agg #[.int .i64 0, .int .i64 0]), 2, 16) := by kernel_rfl
  obtain ⟨i, hi, hz⟩ := Option.map_eq_some_iff.1 h
  simp only [Prod.mk.injEq] at hz
  exact ⟨i, hi, hz.1, hz.2.1, hz.2.2⟩

/-- 'append' of one sample, as one step of a region that draws. -/
theorem step_append_sam {ops : Array Oper} {o : Oper} {a : Act} {w W : World} {K : Act → World → Prop} {Q : Exit → Act → World → Prop} {E : Prop} (hgw : w.grownBy W none) (B n : Nat) (e : Nat → Sam) (x : Sam)
    (hnew : W.heap[w.heap.size]? = some (.cells #[.int .i64 x.1, .int .i64 x.2] 84)) (v : Value)
    (hown : w.ownsRow B 84 2 v n (hvals e n)) (hn : n ≤ 10000) (p : Nat) (hp : p < w.heap.size) (hB : B ≤ p) (hpv : v.ownBlock ≠ some p)
    (hg : o.guard = none) (s y : Operand)
    (ho : o.op = .call { callee := .builtin .append, args := #[s, y], argTypes := #[81, 81] })
    (hs : a.eval s = v) (hx : a.eval y = .slice (some ⟨w.heap.size, 0, none⟩) 1 1)
    (h : ∀ g cap w', w'.ownsRow B 84 2 (.slice (some ⟨g, 0, none⟩) (n + 1) cap) (n + 1) (hvals (putF e n x) (n + 1)) → w.grownBy w' v.ownBlock → g ≠ p →
      (∀ i, w'.cell? ⟨p, i, none⟩ = w.cell? ⟨p, i, none⟩) → (∀ i, w'.frozen? ⟨p, i, none⟩ = w.frozen? ⟨p, i, none⟩) → K (a.put o.dst (.slice (some ⟨g, 0, none⟩) (n + 1) cap)) w') :
    if Region.wanted o (yielded ops a.tmps) = true then Oper.wp Try.prog o a W K Q else E := by
  obtain ⟨i, hi, h1, h2, h3⟩ := info_sample
  have hownW : W.ownsRow B 84 2 v n (hvals e n) := row_of_block hown fun k hk => hgw.block k (ownBlock_row hown hk).2 (fun e => by cases e)
  have hsz : w.heap.size ≤ W.heap.size := hgw.size
  refine step_append_lies _ hg s y 81 ho B 84 i (.agg #[.int .i64 0, .int .i64 0]) 2 16 Try.underlying81 hi h1 h2 h3 rfl (by decide) v n (hvals e n) hs hownW ⟨w.heap.size, 0, none⟩ 1 1 [.int .i64 x.1, .int .i64 x.2] hx rfl
    (World.news_of_block hnew)
    (by intro u hu; simp at hu; rcases hu with rfl | rfl <;> rfl) (by decide) (by unfold maxLen; omega) (by omega) (by omega) _ rfl ?_
  intro g cap w' h4 h5 h6 _
  have e1 : hvals (putF e n x) (n + 1) = hvals e n ++ [.int .i64 x.1, .int .i64 x.2] := by
    rw [hvals_snoc, hvals_congr (e := putF e n x) (f := e) (fun k hk => if_neg (by omega))]
    unfold putF
    rw [if_pos rfl]
  have hgr : w.grownBy w' v.ownBlock := ⟨h5.os.trans hgw.os, h5.tape.trans hgw.tape, h5.output.trans hgw.output, Nat.le_trans hgw.size h5.size, fun k hk hne => by
    rw [h5.block k (Nat.lt_of_lt_of_le hk hgw.size) hne]
    exact hgw.block k hk (fun e => by cases e)⟩
  refine h g cap w' (by rw [e1]; exact h4) hgr ?_ (fun i => World.cell?_of_block (w := w) (hgr.block p hp (fun e => hpv e.symm))) (fun i => World.frozen?_of_block (w := w) (hgr.block p hp (fun e => hpv e.symm)))
  rcases h6 with h6 | h6
  · intro hgp; exact hpv (hgp ▸ h6)
  · intro hgp; omega

theorem HpV.pushed {B p n g cap : Nat} {v : Value} {e e' : Nat → Sam} {w w' : World} (h : HpV B p n v e w) (hg : w.grownBy w' v.ownBlock) (ho : w'.ownsRow B 84 2 (.slice (some ⟨g, 0, none⟩) (n + 1) cap) (n + 1) (hvals e' (n + 1))) (hne : g ≠ p) :
    Hp B p (n + 1) e' (w'.setCell ⟨p, 0, none⟩ (.slice (some ⟨g, 0, none⟩) (n + 1) cap)) ∧ Below B w (w'.setCell ⟨p, 0, none⟩ (.slice (some ⟨g, 0, none⟩) (n + 1) cap)) := by
  have hp' : w'.heap[p]? = some (.cells #[v] 81 (0, 0)) := (hg.block p h.lt (fun e => h.far e.symm)).trans h.cell
  have hl := h.lt
  have hlow := h.low
  refine ⟨⟨.slice (some ⟨g, 0, none⟩) (n + 1) cap, ⟨by simp [World.setCell, Array.getElem?_modify, hp'], h.low, row_of_block ho fun k hk => ?_, fun e => hne (by cases e; rfl)⟩⟩, ((Below.refl B w).grown hg (by omega) fun k hk => (ownBlock_row h.row hk).1).setCell h.low _⟩
  cases hk
  simp [World.setCell, Array.getElem?_modify, show p ≠ g from fun e => hne e.symm]

theorem assert_sam (x1 x2 : Int) (w : World) : (Instr.typeAssert (.iface 84 (.agg #[.int .i64 x1, .int .i64 x2])) 20 84 false).run Try.prog w = .ok (.agg #[.int .i64 x1, .int .i64 x2]) w := by kernel_rfl

theorem push_any {B p n : Nat} {e : Nat → Sam} {w : World} (h : Hp B p n e w) (hn : n ≤ 10000) (x1 x2 : Int) :
    Calls Try.prog 99 #[.pointer (some ⟨p, 0, none⟩), .iface 84 (.agg #[.int .i64 x1, .int .i64 x2])] w fun e' w' => e' = .returned (.tuple #[]) ∧ Hp B p (n + 1) (putF e n (x1, x2)) w' ∧ Below B w w' := by
  obtain ⟨v, h⟩ := h
  have HH : Hid (HpV B p n v e w) := h
  have k0 := h.at
  have kf := h.frozen
  have HSZ : Hid (p < w.heap.size) := h.lt
  have HA : ∀ o, (w.alloc o).cell? ⟨p, 0, none⟩ = some v := fun o => (World.cell?_of_block (w := w) (Below.heap_alloc w o p HSZ.out)).trans k0
  have HT := assert_sam x1 x2
  clear h
  go_enter Try.func99, Try.ntmps99
  go_wp2
  go_region_law ((go_loud (refine step_append_sam (w := w) (by first | exact ⟨rfl, rfl, rfl, by simp, fun _ hk _ => Below.heap_alloc w _ _ hk⟩) B n e (x1, x2) (by first | exact heap_alloc_new w _ | exact heap_alloc_new w.drew _) v HH.out.row hn p HSZ.out HH.out.low HH.out.far (by rfl) (.tmp 7) (.tmp 10) (by rfl) (by rfl) (by rfl) ?_; intro g2 cap2 w2 ho2 hg2 hat2 hcc hff)))
  all_goals
    go_end0
    obtain ⟨q1, q2⟩ := HH.out.pushed hg2 ho2 hat2
    exact ⟨rfl, q1, q2⟩

/-- The last sample is taken away. -/
theorem HpV.popped {B p n g cap : Nat} {e : Nat → Sam} {w w' : World} (h : HpV B p (n + 1) (.slice (some ⟨g, 0, none⟩) (n + 1) cap) e w) (hb : Below w.heap.size w w') :
    Hp B p n e (w'.setCell ⟨p, 0, none⟩ (.slice (some ⟨g, 0, none⟩) n cap)) := by
  have h' := h.keep hb
  obtain ⟨cur, h1, h2, h3, h4, h5, h6⟩ := SRow.block (show SRow B w' g (n + 1) cap e from h'.row)
  have hne : g ≠ p := fun e => h.far (by rw [e]; rfl)
  refine ⟨_, ⟨by simp [World.setCell, Array.getElem?_modify, h'.cell], h.low, ⟨hvals_len e n, .inr ⟨g, cap, cur, rfl, h1, ?_, by omega, h4, h5, ?_⟩⟩, fun e => hne (by cases e; rfl)⟩⟩
  · simp [World.setCell, Array.getElem?_modify, show p ≠ g from fun e => hne e.symm, h2]
  · rw [← hvals_take, ← h6, List.take_take]
    congr 1
    omega

theorem pop_any {B p n : Nat} {e : Nat → Sam} {w : World} (h : Hp B p (n + 1) e w) (hn : n ≤ 10000) :
    Calls Try.prog 98 #[.pointer (some ⟨p, 0, none⟩)] w fun e' w' => e' = .returned (.iface 84 (.agg #[.int .i64 (e n).1, .int .i64 (e n).2])) ∧ Hp B p n e w' ∧ Below B w w' := by
  obtain ⟨v, h⟩ := h
  obtain ⟨g, cap, rfl, hne, hr⟩ := h.inRow (Nat.succ_pos n)
  have HH : Hid (HpV B p (n + 1) (.slice (some ⟨g, 0, none⟩) (n + 1) cap) e w) := h
  have k0 := h.at
  have kf := h.frozen
  have HSZ : Hid (p < w.heap.size ∧ B ≤ p) := ⟨h.lt, h.low⟩
  have HA : ∀ o, (w.alloc o).cell? ⟨p, 0, none⟩ = some (.slice (some ⟨g, 0, none⟩) (n + 1) cap) := fun o => (World.cell?_of_block (w := w) (Below.heap_alloc w o p HSZ.out.1)).trans k0
  have HF : ∀ o, (w.alloc o).frozen? ⟨p, 0, none⟩ = false := fun o => (World.frozen?_of_block (w := w) (Below.heap_alloc w o p HSZ.out.1)).trans kf
  have hlt := h.lt
  have hcap : n + 1 ≤ cap := by obtain ⟨_, _, _, h3, _⟩ := hr.block; exact h3
  have hcap1 : n ≤ cap := by omega
  have hcap2 : (n : Int) ≤ cap := by omega
  obtain ⟨c0, c1⟩ := hr.cells (Nat.lt_succ_self n)
  obtain ⟨x, hx⟩ : ∃ x, e n = x := ⟨_, rfl⟩
  rw [hx] at c0 c1 ⊢
  obtain ⟨x1, x2⟩ := x
  clear h hx hr hne
  go_enter Try.func98, Try.ntmps98
  go_wp2
  go_ret
  have h1 := HH.out.popped (Below.refl _ w)
  have hb := HSZ.out
  refine ⟨rfl, h1.keep ((Below.refl _ _).alloc (Nat.le_refl _) _), ((Below.refl B w).setCell hb.2 _).alloc (by simp [World.setCell]; omega) _⟩

end Go.Proofs.Ytdbgcbbfnjoebaa

/- container/heap over package pulse's samples: up, down, Push, Pop go the steps of the plain heap. -/
namespace Go.Proofs.Ytdbgcbbfnjoebaa
open Go.RowKit

def keyS (x : Sam) : Int := -(x.2 * 1000 + x.1)
def Pl (n : Nat) (e : Nat → Sam) : Prop := ∀ k, k < n → 0 ≤ (e k).1 ∧ (e k).1 < 1000
theorem less_key {x y : Sam} (hx : 0 ≤ x.1 ∧ x.1 < 1000) (hy : 0 ≤ y.1 ∧ y.1 < 1000) : lessS x y = decide (keyS x < keyS y) := by
  unfold lessS keyS
  split
  · refine decide_eq_decide.2 ⟨fun h => ?_, fun h => ?_⟩ <;> omega
  · refine decide_eq_decide.2 ⟨fun h => ?_, fun h => ?_⟩ <;> omega
theorem Pl.swap {n i j : Nat} {e : Nat → Sam} (h : Pl n e) (hi : i < n) (hj : j < n) : Pl n (swapF e i j) := fun k hk => by
  unfold swapF
  split
  · exact h j hj
  · split
    · exact h i hi
    · exact h k hk

/-! ### Which method a call through the interface is -/
theorem m_less (a : Addr) (w : World) : (method 214 79 (.pointer (some a)) "Less").run Try.prog w = ((fun v => (97, v)) <$> loadVar 81 a).run Try.prog w := by kernel_rfl
theorem m_len (a : Addr) (w : World) : (method 214 79 (.pointer (some a)) "Len").run Try.prog w = ((fun v => (96, v)) <$> loadVar 81 a).run Try.prog w := by kernel_rfl
theorem m_swap (a : Addr) (w : World) : (method 214 79 (.pointer (some a)) "Swap").run Try.prog w = ((fun v => (100, v)) <$> loadVar 81 a).run Try.prog w := by kernel_rfl
theorem m_push (a : Addr) (w : World) : (method 214 79 (.pointer (some a)) "Push").run Try.prog w = .ok (99, .pointer (some a)) w := by kernel_rfl
theorem m_pop (a : Addr) (w : World) : (method 214 79 (.pointer (some a)) "Pop").run Try.prog w = .ok (98, .pointer (some a)) w := by kernel_rfl

theorem load_hp {p : Nat} {v : Value} {w : World} (h : w.cell? ⟨p, 0, none⟩ = some v) (f : Nat) : ((fun v => (f, v)) <$> loadVar 81 ⟨p, 0, none⟩).run Try.prog w = .ok (f, v) w := by
  simp [go_sem, loadVar, h]

section
variable {B p n : Nat} {v : Value} {e : Nat → Sam} {w : World}
theorem HpV.mLess (h : HpV B p n v e w) : (method 214 79 (.pointer (some ⟨p, 0, none⟩)) "Less").run Try.prog w = .ok (97, v) w := (m_less _ _).trans (load_hp h.at _)
theorem HpV.mLen (h : HpV B p n v e w) : (method 214 79 (.pointer (some ⟨p, 0, none⟩)) "Len").run Try.prog w = .ok (96, v) w := (m_len _ _).trans (load_hp h.at _)
theorem HpV.mSwap (h : HpV B p n v e w) : (method 214 79 (.pointer (some ⟨p, 0, none⟩)) "Swap").run Try.prog w = .ok (100, v) w := (m_swap _ _).trans (load_hp h.at _)
end

/-- Another order of the same block's samples. -/
theorem HpV.other {B p n g cap : Nat} {e e' : Nat → Sam} {w w' : World} (h : HpV B p n (.slice (some ⟨g, 0, none⟩) n cap) e w) (hr : SRow B w' g n cap e') (hc : w'.heap[p]? = w.heap[p]?) : Hp B p n e' w' :=
  ⟨_, ⟨hc.trans h.cell, h.low, hr, h.far⟩⟩

theorem wrap_n {z : Int} (h1 : -1000000 ≤ z) (h2 : z ≤ 1000000) : wrap64 z = z := by unfold wrap64; omega

theorem hswap_any {B p n g cap : Nat} {e : Nat → Sam} {w : World} (h : HpV B p n (.slice (some ⟨g, 0, none⟩) n cap) e w) {i j : Nat} (hi : i < n) (hj : j < n) :
    Calls Try.prog 100 #[.slice (some ⟨g, 0, none⟩) n cap, .int .i64 i, .int .i64 j] w fun e' w' => e' = .returned (.tuple #[]) ∧ Hp B p n (swapF e i j) w' ∧ Below B w w' := by
  refine (swap_any (h := (show SRow B w g n cap e from h.row)) hi hj).mono ?_
  rintro e' w' ⟨he, hr, hc, hb⟩
  exact ⟨he, h.other hr (hc p h.far'), hb⟩

set_option maxRecDepth 100000 in
set_option maxHeartbeats 400000 in
theorem up_any {B p n : Nat} {e : Nat → Sam} {w : World} (h : Hp B p n e w) (hl : Pl n e) (j : Nat) (hj : j < n) (hn : n ≤ 1000) :
    Calls Try.prog 74 #[.iface 79 (.pointer (some ⟨p, 0, none⟩)), .int .i64 j] w fun e' w' => e' = .returned (.tuple #[]) ∧ Hp B p n (upF keyS n e j) w' ∧ Below B w w' := by
  have HN : Hid (n ≤ 1000) := hn
  clear hn
  go_enter Try.func74, Try.ntmps74
  go_wp2
  go_loopw [1] (fun x W => ∃ (i : Nat) (f : Nat) (e1 : Nat → Sam), i < n ∧ i ≤ f ∧ x = .int .i64 i ∧ Hp B p n e1 W ∧ Pl n e1 ∧ Below B w W ∧ Hid (upF keyS f e1 i = upF keyS n e j)) (fun x _ => (intOf x).toNat)
  case atStart => exact ⟨j, n, e, hj, by omega, rfl, h, hl, Below.refl _ _, rfl⟩
  case round =>
    obtain ⟨i, f, e1, hi, hif, rfl, hh, hp, hb, HE⟩ := hrel
    obtain ⟨v, hv⟩ := hh
    obtain ⟨g, cap, rfl, hne, hr⟩ := hv.inRow (by omega)
    by_cases h0 : i = 0
    · subst h0
      go_wp2
      go_end0
      have e0 : upF keyS f e1 0 = e1 := by cases f <;> rfl
      refine ⟨rfl, ?_, hb⟩
      rw [← HE.out, e0]
      exact ⟨_, hv⟩
    · obtain ⟨m, hm⟩ : ∃ m, i = m + 1 := ⟨i - 1, by omega⟩
      obtain ⟨f, rfl⟩ : ∃ k, f = k + 1 := ⟨f - 1, by omega⟩
      obtain ⟨q, hq⟩ : ∃ q, m / 2 = q := ⟨_, rfl⟩
      have HV : Hid (∀ k, HpV B p n (.slice (some ⟨g, 0, none⟩) n cap) e1 (wr.drewN k)) := fun k => hv.drewN k
      have hLess := hv.mLess
      have hSwap : ∀ k, (method 214 79 (.pointer (some ⟨p, 0, none⟩)) "Swap").run Try.prog (wr.drewN k) = .ok (100, .slice (some ⟨g, 0, none⟩) n cap) (wr.drewN k) := fun k => (HV.out k).mSwap
      have hw1 : wrap64 ((i : Int) - 1) = m := by rw [show (i : Int) - 1 = m by omega]; exact wrap_n (by omega) (by have := HN.out; omega)
      have hw2 : wrap64 ((m : Int) / 2) = q := by rw [show (m : Int) / 2 = q by omega]; exact wrap_n (by omega) (by have := HN.out; omega)
      have hw3 : ((q : Int) == (i : Int)) = false := beq_eq_false_iff_ne.2 (by omega)
      have HI : Hid (i < n ∧ q < n ∧ i ≤ f + 1 ∧ (i - 1) / 2 = q ∧ q < i) := ⟨hi, by omega, hif, by omega, by omega⟩
      have HR : Hid (SRow B wr g n cap e1) := hr
      have HL : Hid (lessS (e1 i) (e1 q) = decide (keyS (e1 i) < keyS (e1 q))) := less_key (hp _ hi) (hp _ (by omega))
      have HP : Hid (Pl n e1) := hp
      clear hq hi hif hr hv hp h0 hm
      have HU : Hid (upF keyS (f + 1) e1 i = if keyS (e1 i) < keyS (e1 q) then upF keyS f (swapF e1 q i) q else e1) := by
        obtain ⟨_, _, _, h4, h5⟩ := HI.out
        have e0 : upF keyS (f + 1) e1 i = if (i - 1) / 2 = i then e1 else if keyS (e1 i) < keyS (e1 ((i - 1) / 2)) then upF keyS f (swapF e1 ((i - 1) / 2) i) ((i - 1) / 2) else e1 := rfl
        rw [h4, if_neg (by omega)] at e0
        exact e0
      by_cases hk : keyS (e1 i) < keyS (e1 q)
      · have HK : Hid (upF keyS (f + 1) e1 i = upF keyS f (swapF e1 q i) q) := HU.out.trans (if_pos hk)
        have HL2 : Hid (lessS (e1 i) (e1 q) = true) := HL.out.trans (decide_eq_true hk)
        clear hk HL HU
        go_wp2_with (first
          | (go_at_call 97; go_loud (refine (less_any HR.out HI.out.1 HI.out.2.1).mono ?_; rw [HL2.out]; rintro e' w' ⟨rfl, k, rfl⟩))
          | (go_at_call 100; go_loud (refine (hswap_any (HV.out k) HI.out.2.1 HI.out.1).mono ?_; rintro e' w' ⟨rfl, hh2, hb2⟩)))
        go_roundw
        case rel =>
          exact ⟨q, f, _, HI.out.2.1, by have := HI.out; omega, rfl, hh2, HP.out.swap HI.out.2.1 HI.out.1, ((below_drewN hb k).trans hb2), HK.out.symm.trans HE.out⟩
        case measure => simp [intOf]; have := HI.out; omega
      · have HK : Hid (upF keyS (f + 1) e1 i = e1) := HU.out.trans (if_neg hk)
        have HL2 : Hid (lessS (e1 i) (e1 q) = false) := HL.out.trans (decide_eq_false hk)
        clear hk HL HU
        go_wp2_with (first
          | (go_at_call 97; go_loud (refine (less_any HR.out HI.out.1 HI.out.2.1).mono ?_; rw [HL2.out]; rintro e' w' ⟨rfl, k, rfl⟩)))
        go_end0
        refine ⟨rfl, ?_, below_drewN hb k⟩
        rw [← HE.out, HK.out]
        exact ⟨_, HV.out k⟩

end Go.Proofs.Ytdbgcbbfnjoebaa

/- container/heap over package pulse's samples: down, Push, Pop. -/
namespace Go.Proofs.Ytdbgcbbfnjoebaa
open Go.RowKit

theorem downF_end {f i n : Nat} {e : Nat → Sam} (h : n ≤ 2 * i + 1) : downF keyS f e i n = (e, i) := by
  cases f with
  | zero => rfl
  | succ f => unfold downF; rw [if_pos h]
theorem downF_step {f i n c : Nat} {e : Nat → Sam} (h : ¬ n ≤ 2 * i + 1) (hc : childF keyS e i n = c) : downF keyS (f + 1) e i n = if keyS (e c) < keyS (e i) then downF keyS f (swapF e i c) c n else (e, i) := by
  subst hc
  show (if n ≤ 2 * i + 1 then (e, i) else if keyS (e (childF keyS e i n)) < keyS (e i) then downF keyS f (swapF e i (childF keyS e i n)) (childF keyS e i n) n else (e, i)) = _
  rw [if_neg h]

set_option maxRecDepth 100000 in
set_option maxHeartbeats 1600000 in
theorem down_any {B p n : Nat} {e : Nat → Sam} {w : World} (h : Hp B p n e w) (hl : Pl n e) (m : Nat) (hm : m ≤ n) (hn : n ≤ 1000) :
    Calls Try.prog 75 #[.iface 79 (.pointer (some ⟨p, 0, none⟩)), .int .i64 0, .int .i64 m] w fun e' w' => (∃ b, e' = .returned (.bool b)) ∧ Hp B p n (downF keyS m e 0 m).1 w' ∧ Below B w w' := by
  have HN : Hid (n ≤ 1000 ∧ m ≤ n) := ⟨hn, hm⟩
  clear hn hm
  go_enter Try.func75, Try.ntmps75
  go_wp2
  go_loopw [7] (fun x W => ∃ (i : Nat) (f : Nat) (e1 : Nat → Sam), i ≤ m ∧ m ≤ i + f ∧ x = .int .i64 i ∧ Hp B p n e1 W ∧ Pl n e1 ∧ Below B w W ∧ Hid (downF keyS f e1 i m = downF keyS m e 0 m)) (fun x _ => m - (intOf x).toNat)
  case atStart => exact ⟨0, m, e, Nat.zero_le _, by omega, rfl, h, hl, Below.refl _ _, rfl⟩
  case round =>
    clear h hl
    obtain ⟨i, f, e1, hi, hif, rfl, hh, hp, hb, HE⟩ := hrel
    obtain ⟨a, ha⟩ : ∃ a, 2 * i + 1 = a := ⟨_, rfl⟩
    obtain ⟨b, hb2⟩ : ∃ b, a + 1 = b := ⟨_, rfl⟩
    have hb0 := HN.out
    have hj1 : wrap64 (wrap64 (2 * (i : Int)) + 1) = (a : Int) := by
      rw [wrap_n (z := 2 * (i : Int)) (by omega) (by omega), show 2 * (i : Int) + 1 = a by omega]
      exact wrap_n (by omega) (by omega)
    have hj2 : wrap64 ((a : Int) + 1) = (b : Int) := by rw [show (a : Int) + 1 = b by omega]; exact wrap_n (by omega) (by omega)
    have hj3 : ((a : Int) < 0) = False := eq_false (by omega)
    clear hb0
    by_cases hend : m ≤ a
    · have HD := (downF_end (f := f) (e := e1) (show m ≤ 2 * i + 1 by omega))
      have HX : Hid ((downF keyS m e 0 m).1 = e1) := by show _ = _; rw [← HE.out, HD]
      have hc1 : ((m : Int) ≤ (a : Int)) = True := eq_true (by omega)
      clear HD HE ha hb2 hend hi hif hp
      go_wp2
      go_ret
      refine ⟨⟨_, rfl⟩, ?_, hb⟩
      rw [HX.out]
      exact hh
    · obtain ⟨v, hv⟩ := hh
      obtain ⟨g, cap, rfl, hne, hr⟩ := hv.inRow (by have := HN.out; omega)
      obtain ⟨f, rfl⟩ : ∃ k, f = k + 1 := ⟨f - 1, by omega⟩
      have hc1 : ((m : Int) ≤ (a : Int)) = False := eq_false (by omega)
      have HV : Hid (∀ k, HpV B p n (.slice (some ⟨g, 0, none⟩) n cap) e1 (wr.drewN k)) := fun k => hv.drewN k
      have hLess : (method 214 79 (.pointer (some ⟨p, 0, none⟩)) "Less").run Try.prog wr = .ok (97, .slice (some ⟨g, 0, none⟩) n cap) wr := hv.mLess
      have hLess2 : ∀ k, (method 214 79 (.pointer (some ⟨p, 0, none⟩)) "Less").run Try.prog (wr.drewN k) = .ok (97, .slice (some ⟨g, 0, none⟩) n cap) (wr.drewN k) := fun k => (HV.out k).mLess
      have hSwap : ∀ k, (method 214 79 (.pointer (some ⟨p, 0, none⟩)) "Swap").run Try.prog (wr.drewN k) = .ok (100, .slice (some ⟨g, 0, none⟩) n cap) (wr.drewN k) := fun k => (HV.out k).mSwap
      obtain ⟨c, hc⟩ : ∃ c, childF keyS e1 i m = c := ⟨_, rfl⟩
      have HD := downF_step (f := f) (show ¬ m ≤ 2 * i + 1 by omega) hc
      have hci := childF_is keyS e1 (i := i) (n := m) (by omega)
      rw [hc] at hci
      have hcn := hci.2.1
      have hc01 := hci.1
      have hmn := HN.out
      have HI : Hid (i < n ∧ a < n ∧ c < n ∧ c < m ∧ i < c ∧ m ≤ i + (f + 1)) := ⟨by omega, by omega, by omega, hcn, by omega, hif⟩
      have HR : Hid (∀ k, SRow B (wr.drewN k) g n cap e1) := fun _ => hr
      have HP : Hid (Pl n e1) := hp
      have HL : Hid (lessS (e1 c) (e1 i) = decide (keyS (e1 c) < keyS (e1 i))) := less_key (hp _ (by omega)) (hp _ (by omega))
      have HCH : Hid ((b < m ∧ lessS (e1 b) (e1 a) = true ∧ c = b) ∨ (b < m ∧ lessS (e1 b) (e1 a) = false ∧ c = a) ∨ (¬ b < m ∧ c = a)) := by
        show _ ∨ _
        unfold childF at hc
        rw [show 2 * i + 2 = b by omega, show 2 * i + 1 = a by omega] at hc
        by_cases hbm : b < m
        · rw [less_key (hp b (by omega)) (hp a (by omega))]
          by_cases hk : keyS (e1 b) < keyS (e1 a)
          · rw [if_pos ⟨hbm, hk⟩] at hc
            exact .inl ⟨hbm, decide_eq_true hk, hc.symm⟩
          · rw [if_neg (fun h => hk h.2)] at hc
            exact .inr (.inl ⟨hbm, decide_eq_false hk, hc.symm⟩)
        · rw [if_neg (fun h => hbm h.1)] at hc
          exact .inr (.inr ⟨hbm, hc.symm⟩)
      have HBX : Hid (b < m → b < n) := fun h => by omega
      have HQ : Hid ((lessS (e1 c) (e1 i) = true ∧ downF keyS (f + 1) e1 i m = downF keyS f (swapF e1 i c) c m) ∨ (lessS (e1 c) (e1 i) = false ∧ downF keyS (f + 1) e1 i m = (e1, i))) := by
        show _ ∨ _
        rw [HL.out, HD]
        by_cases hk : keyS (e1 c) < keyS (e1 i)
        · exact .inl ⟨decide_eq_true hk, if_pos hk⟩
        · exact .inr ⟨decide_eq_false hk, if_neg hk⟩
      clear hci hcn hc01 hmn HD hc HL hr hp hv hend hif hi ha hb2
      rcases HCH.out with ⟨hbm, hx, hcb⟩ | ⟨hbm, hx, hcb⟩ | ⟨hbm, hcb⟩
      · have hbmI : ((b : Int) < (m : Int)) = True := eq_true (by omega)
        have HX : Hid (lessS (e1 b) (e1 a) = true ∧ b < n) := ⟨hx, HBX.out hbm⟩
        subst hcb
        clear hx hbm HCH HBX
        rcases HQ.out with ⟨hy, hz⟩ | ⟨hy, hz⟩
        · have HY : Hid (lessS (e1 c) (e1 i) = true ∧ downF keyS (f + 1) e1 i m = downF keyS f (swapF e1 i c) c m) := ⟨hy, hz⟩
          clear hy hz HQ
          have l1 : Hid True := trivial
          go_wp2_with (first
            | (go_at_call 97; clear l1; refine (less_any (HR.out 0) HX.out.2 HI.out.2.1).mono ?_; rw [HX.out.1]; rintro e' w' ⟨rfl, k1, rfl⟩)
            | (go_at_call 97; refine (less_any (HR.out k1) HI.out.2.2.1 HI.out.1).mono ?_; rw [HY.out.1]; rintro e' w' ⟨rfl, k2, rfl⟩)
            | (go_at_call 100; refine (hswap_any (HV.out _) HI.out.1 HI.out.2.2.1).mono ?_; rintro e' w' ⟨rfl, hh2, hb2⟩))
          go_roundw
          case rel => exact ⟨c, f, _, by have := HI.out; omega, by have := HI.out; omega, rfl, hh2, HP.out.swap HI.out.1 HI.out.2.2.1, (below_drewN hb _).trans hb2, HY.out.2.symm.trans HE.out⟩
          case measure => simp [intOf]; have := HI.out; omega
        · have HY : Hid (lessS (e1 c) (e1 i) = false ∧ downF keyS (f + 1) e1 i m = (e1, i)) := ⟨hy, hz⟩
          clear hy hz HQ
          have l1 : Hid True := trivial
          go_wp2_with (first
            | (go_at_call 97; clear l1; refine (less_any (HR.out 0) HX.out.2 HI.out.2.1).mono ?_; rw [HX.out.1]; rintro e' w' ⟨rfl, k1, rfl⟩)
            | (go_at_call 97; refine (less_any (HR.out k1) HI.out.2.2.1 HI.out.1).mono ?_; rw [HY.out.1]; rintro e' w' ⟨rfl, k2, rfl⟩))
          go_ret
          refine ⟨⟨_, rfl⟩, ?_, below_drewN hb _⟩
          rw [← HE.out, HY.out.2]
          exact ⟨_, HV.out _⟩
      · have hbmI : ((b : Int) < (m : Int)) = True := eq_true (by omega)
        have HX : Hid (lessS (e1 b) (e1 a) = false ∧ b < n) := ⟨hx, HBX.out hbm⟩
        subst hcb
        clear hx hbm HCH HBX
        rcases HQ.out with ⟨hy, hz⟩ | ⟨hy, hz⟩
        · have HY : Hid (lessS (e1 c) (e1 i) = true ∧ downF keyS (f + 1) e1 i m = downF keyS f (swapF e1 i c) c m) := ⟨hy, hz⟩
          clear hy hz HQ
          have l1 : Hid True := trivial
          go_wp2_with (first
            | (go_at_call 97; clear l1; refine (less_any (HR.out 0) HX.out.2 HI.out.2.1).mono ?_; rw [HX.out.1]; rintro e' w' ⟨rfl, k1, rfl⟩)
            | (go_at_call 97; refine (less_any (HR.out k1) HI.out.2.2.1 HI.out.1).mono ?_; rw [HY.out.1]; rintro e' w' ⟨rfl, k2, rfl⟩)
            | (go_at_call 100; refine (hswap_any (HV.out _) HI.out.1 HI.out.2.2.1).mono ?_; rintro e' w' ⟨rfl, hh2, hb2⟩))
          go_roundw
          case rel => exact ⟨c, f, _, by have := HI.out; omega, by have := HI.out; omega, rfl, hh2, HP.out.swap HI.out.1 HI.out.2.2.1, (below_drewN hb _).trans hb2, HY.out.2.symm.trans HE.out⟩
          case measure => simp [intOf]; have := HI.out; omega
        · have HY : Hid (lessS (e1 c) (e1 i) = false ∧ downF keyS (f + 1) e1 i m = (e1, i)) := ⟨hy, hz⟩
          clear hy hz HQ
          have l1 : Hid True := trivial
          go_wp2_with (first
            | (go_at_call 97; clear l1; refine (less_any (HR.out 0) HX.out.2 HI.out.2.1).mono ?_; rw [HX.out.1]; rintro e' w' ⟨rfl, k1, rfl⟩)
            | (go_at_call 97; refine (less_any (HR.out k1) HI.out.2.2.1 HI.out.1).mono ?_; rw [HY.out.1]; rintro e' w' ⟨rfl, k2, rfl⟩))
          go_ret
          refine ⟨⟨_, rfl⟩, ?_, below_drewN hb _⟩
          rw [← HE.out, HY.out.2]
          exact ⟨_, HV.out _⟩
      · have hbmI : ((b : Int) < (m : Int)) = False := eq_false (by omega)
        subst hcb
        clear hbm HCH HBX
        rcases HQ.out with ⟨hy, hz⟩ | ⟨hy, hz⟩
        · have HY : Hid (lessS (e1 c) (e1 i) = true ∧ downF keyS (f + 1) e1 i m = downF keyS f (swapF e1 i c) c m) := ⟨hy, hz⟩
          clear hy hz HQ
          go_wp2_with (first
            | (go_at_call 97; refine (less_any (HR.out 0) HI.out.2.2.1 HI.out.1).mono ?_; rw [HY.out.1]; rintro e' w' ⟨rfl, k2, rfl⟩)
            | (go_at_call 100; refine (hswap_any (HV.out _) HI.out.1 HI.out.2.2.1).mono ?_; rintro e' w' ⟨rfl, hh2, hb2⟩))
          go_roundw
          case rel => exact ⟨c, f, _, by have := HI.out; omega, by have := HI.out; omega, rfl, hh2, HP.out.swap HI.out.1 HI.out.2.2.1, (below_drewN hb _).trans hb2, HY.out.2.symm.trans HE.out⟩
          case measure => simp [intOf]; have := HI.out; omega
        · have HY : Hid (lessS (e1 c) (e1 i) = false ∧ downF keyS (f + 1) e1 i m = (e1, i)) := ⟨hy, hz⟩
          clear hy hz HQ
          go_wp2_with (first
            | (go_at_call 97; refine (less_any (HR.out 0) HI.out.2.2.1 HI.out.1).mono ?_; rw [HY.out.1]; rintro e' w' ⟨rfl, k2, rfl⟩))
          go_ret
          refine ⟨⟨_, rfl⟩, ?_, below_drewN hb _⟩
          rw [← HE.out, HY.out.2]
          exact ⟨_, HV.out _⟩

end Go.Proofs.Ytdbgcbbfnjoebaa

/- container/heap over package pulse's samples: Push, Pop. -/
namespace Go.Proofs.Ytdbgcbbfnjoebaa
open Go.RowKit

/-- A sample is laid into the heap. -/
def pushF (e : Nat → Sam) (n : Nat) (x : Sam) : Nat → Sam := upF keyS (n + 1) (putF e n x) n

set_option maxRecDepth 100000 in
theorem heapPush_any {B p n : Nat} {e : Nat → Sam} {w : World} (h : Hp B p n e w) (hl : Pl n e) (hn : n < 1000) (x1 x2 : Int) (hx : 0 ≤ x1 ∧ x1 < 1000) :
    Calls Try.prog 58 #[.iface 79 (.pointer (some ⟨p, 0, none⟩)), .iface 84 (.agg #[.int .i64 x1, .int .i64 x2])] w fun e' w' => e' = .returned (.tuple #[]) ∧ Hp B p (n + 1) (pushF e n (x1, x2)) w' ∧ Below B w w' := by
  have HH : Hid (Hp B p n e w ∧ n < 1000) := ⟨h, hn⟩
  have hp1 : ∀ W, (method 214 79 (.pointer (some ⟨p, 0, none⟩)) "Push").run Try.prog W = .ok (99, .pointer (some ⟨p, 0, none⟩)) W := fun W => m_push _ W
  have HP : Hid (Pl (n + 1) (putF e n (x1, x2))) := fun k hk => by
    unfold putF
    split
    · exact hx
    · exact hl k (by omega)
  have hw : wrap64 (n : Int) = n := wrap_n (by omega) (by omega)
  clear h hn hl hx
  go_enter Try.func58, Try.ntmps58
  go_wp2_with (first
    | (go_at_call 99; go_loud (refine (push_any HH.out.1 (by have := HH.out.2; omega) x1 x2).mono ?_; rintro e' w' ⟨rfl, hh1, hb1⟩; obtain ⟨v, hv⟩ := hh1; have hLen := hv.mLen; obtain ⟨a, cap, rfl⟩ := hv.slice))
    | (go_at_call 96; go_loud (refine (len_any a (n + 1) cap _).mono ?_; rintro e' w' ⟨rfl, rfl⟩))
    | (go_at_call 74; go_loud (refine (up_any ⟨_, hv⟩ HP.out n (by omega) (by have := HH.out.2; omega)).mono ?_; rintro e' w2 ⟨rfl, hh2, hb2⟩)))
  go_end0
  exact ⟨rfl, hh2, hb1.trans hb2⟩

set_option maxRecDepth 100000 in
set_option maxHeartbeats 400000 in
/-- The heap's first is taken. -/
theorem heapPop_any {B p n : Nat} {e : Nat → Sam} {w : World} (h : Hp B p (n + 1) e w) (hl : Pl (n + 1) e) (hn : n < 1000) :
    Calls Try.prog 60 #[.iface 79 (.pointer (some ⟨p, 0, none⟩))] w fun e' w' => e' = .returned (.iface 84 (.agg #[.int .i64 ((downF keyS n (swapF e 0 n) 0 n).1 n).1, .int .i64 ((downF keyS n (swapF e 0 n) 0 n).1 n).2])) ∧ Hp B p n (downF keyS n (swapF e 0 n) 0 n).1 w' ∧ Below B w w' := by
  have HH : Hid (Hp B p (n + 1) e w ∧ n < 1000 ∧ Pl (n + 1) e) := ⟨h, hn, hl⟩
  obtain ⟨v, hv⟩ := h
  obtain ⟨g, cap, rfl, hne, hr⟩ := hv.inRow (Nat.succ_pos n)
  have HV : Hid (HpV B p (n + 1) (.slice (some ⟨g, 0, none⟩) (n + 1) cap) e w) := hv
  have hp1 : ∀ W, (method 214 79 (.pointer (some ⟨p, 0, none⟩)) "Pop").run Try.prog W = .ok (98, .pointer (some ⟨p, 0, none⟩)) W := fun W => m_pop _ W
  have hLen := hv.mLen
  have hSwap := hv.mSwap
  have hw : wrap64 (n : Int) = n := wrap_n (by omega) (by omega)
  have HSP : Hid (Pl (n + 1) (swapF e 0 n)) := hl.swap (Nat.succ_pos n) (Nat.lt_succ_self n)
  clear hn hl hr hv hne
  go_enter Try.func60, Try.ntmps60
  go_wp2_with (first
    | (go_at_call 96; go_loud (refine (len_any _ (n + 1) cap _).mono ?_; rintro e' w' ⟨rfl, rfl⟩))
    | (go_at_call 100; go_loud (refine (hswap_any HV.out (i := 0) (j := n) (Nat.succ_pos n) (Nat.lt_succ_self n)).mono ?_; rintro e' w1 ⟨rfl, hh1, hb1⟩))
    | (go_at_call 75; go_loud (refine (down_any hh1 HSP.out n (Nat.le_succ n) (by have := HH.out.2.1; omega)).mono ?_; rintro e' w2 ⟨⟨b, rfl⟩, hh2, hb2⟩))
    | (go_at_call 98; go_loud (refine (pop_any hh2 (by have := HH.out.2.1; omega)).mono ?_; rintro e' w3 ⟨rfl, hh3, hb3⟩)))
  go_ret
  exact ⟨rfl, hh3, (hb1.trans hb2).trans hb3⟩

end Go.Proofs.Ytdbgcbbfnjoebaa

