/- Package pitch, the heap's lags in memory: what stands where, and the heap's own methods. -/
import Derived.Test.YtamiokleolfnoaaTabsB
import Derived.Test.YtamiokleolfnoaaPitchN
import Derived.Test.YtamiokleolfnoaaLastOp
import Derived.Handy
import Derived.Deep.AppendLies
import Derived.Deep.RegionLaw
namespace Go.Proofs.Ytamiokleolfnoaa
namespace Pit
open Go.RowKit

def lagCell (x : LagS) : Nat → Value
  | 0 => .int .i64 x.1
  | _ => .int .i64 x.2
def hcell (e : Nat → LagS) (j : Nat) : Value := lagCell (e (j / 2)) (j % 2)
def hvals (e : Nat → LagS) (n : Nat) : List Value := (List.range (n * 2)).map (hcell e)

theorem hcell0 (e : Nat → LagS) (i : Nat) : hcell e (i * 2) = .int .i64 (e i).1 := by
  unfold hcell
  rw [show i * 2 / 2 = i by omega, show i * 2 % 2 = 0 by omega]
  rfl
theorem hcell1 (e : Nat → LagS) (i : Nat) : hcell e (i * 2 + 1) = .int .i64 (e i).2 := by
  unfold hcell
  rw [show (i * 2 + 1) / 2 = i by omega, show (i * 2 + 1) % 2 = 1 by omega]
  rfl

theorem hvals_len (e : Nat → LagS) (n : Nat) : (hvals e n).length = n * 2 := by unfold hvals; rw [List.length_map, List.length_range]
theorem hvals_at (e : Nat → LagS) {n j : Nat} (h : j < n * 2) : (hvals e n)[j]? = some (hcell e j) := by
  unfold hvals
  rw [List.getElem?_map, List.getElem?_range h]
  rfl
theorem hvals_snoc (e : Nat → LagS) (n : Nat) : hvals e (n + 1) = hvals e n ++ [.int .i64 (e n).1, .int .i64 (e n).2] := by
  unfold hvals
  rw [show (n + 1) * 2 = n * 2 + 1 + 1 by omega, List.range_succ, List.range_succ, List.map_append, List.map_append, List.append_assoc]
  show _ ++ ([hcell e (n * 2)] ++ [hcell e (n * 2 + 1)]) = _
  rw [hcell0, hcell1]
  rfl
theorem hvals_take (e : Nat → LagS) (n : Nat) : (hvals e (n + 1)).take (n * 2) = hvals e n := by
  rw [hvals_snoc, List.take_append_of_le_length (by rw [hvals_len]; exact Nat.le_refl _), List.take_of_length_le (by rw [hvals_len]; exact Nat.le_refl _)]
theorem hvals_congr {e f : Nat → LagS} {n : Nat} (h : ∀ i, i < n → e i = f i) : hvals e n = hvals f n := by
  unfold hvals
  refine List.map_congr_left fun j hj => ?_
  have := List.mem_range.1 hj
  unfold hcell
  rw [h (j / 2) (by omega)]

/-- A row of lags in a block of its own. -/
def SRow (B : Nat) (w : World) (g n cap : Nat) (e : Nat → LagS) : Prop := w.ownsRow B 33 2 (.slice (some ⟨g, 0, none⟩) n cap) n (hvals e n)

theorem SRow.block {B g n cap : Nat} {w : World} {e : Nat → LagS} (h : SRow B w g n cap e) : ∃ cur : Array Value, B ≤ g ∧ w.heap[g]? = some (.cells cur 33 (0, 0)) ∧ n ≤ cap ∧ cap ≤ maxLen ∧ cur.size = cap * 2 ∧ cur.toList.take (n * 2) = hvals e n := by
  obtain ⟨_, h | ⟨g', cap', cur, hv, h1, h2, h3, h4, h5, h6⟩⟩ := h
  · cases h.1
  · cases hv
    exact ⟨cur, h1, h2, h3, h4, h5, h6⟩

theorem SRow.of_block {B g n cap : Nat} {w : World} {e : Nat → LagS} {cur : Array Value} (h1 : B ≤ g) (h2 : w.heap[g]? = some (.cells cur 33 (0, 0))) (h3 : n ≤ cap) (h4 : cap ≤ maxLen) (h5 : cur.size = cap * 2) (h6 : cur.toList.take (n * 2) = hvals e n) : SRow B w g n cap e :=
  ⟨hvals_len e n, .inr ⟨g, cap, cur, rfl, h1, h2, h3, h4, h5, h6⟩⟩

theorem SRow.cell {B g n cap : Nat} {w : World} {e : Nat → LagS} (h : SRow B w g n cap e) {j : Nat} (hj : j < n * 2) : w.cell? ⟨g, j, none⟩ = some (hcell e j) := by
  obtain ⟨cur, _, h2, h3, _, h5, h6⟩ := h.block
  have hc : cur[j]? = some (hcell e j) := by
    have := hvals_at e hj
    rw [← h6, List.getElem?_take_of_lt hj] at this
    simpa using this
  simp [World.cell?, h2, hc]

theorem SRow.cells {B g n cap : Nat} {w : World} {e : Nat → LagS} (h : SRow B w g n cap e) {i : Nat} (hi : i < n) : w.cell? ⟨g, i * 2, none⟩ = some (.int .i64 (e i).1) ∧ w.cell? ⟨g, i * 2 + 1, none⟩ = some (.int .i64 (e i).2) := by
  rw [h.cell (by omega), h.cell (by omega), hcell0, hcell1]
  exact ⟨rfl, rfl⟩

theorem SRow.frozen {B g n cap : Nat} {w : World} {e : Nat → LagS} (h : SRow B w g n cap e) (j : Nat) : w.frozen? ⟨g, j, none⟩ = false := by
  obtain ⟨cur, _, h2, _⟩ := h.block
  simp [World.frozen?, h2]

theorem SRow.lt {B g n cap : Nat} {w : World} {e : Nat → LagS} (h : SRow B w g n cap e) : g < w.heap.size := by
  obtain ⟨cur, _, h2, _⟩ := h.block
  exact (Array.getElem?_eq_some_iff.1 h2).1

theorem SRow.keep {B g n cap : Nat} {w w' : World} {e : Nat → LagS} (h : SRow B w g n cap e) (hb : w'.heap[g]? = w.heap[g]?) : SRow B w' g n cap e := by
  obtain ⟨cur, h1, h2, h3, h4, h5, h6⟩ := h.block
  exact .of_block h1 (hb.trans h2) h3 h4 h5 h6

/-- Two cells of one lag are written. -/
def putF (e : Nat → LagS) (i : Nat) (x : LagS) : Nat → LagS := fun k => if k = i then x else e k

theorem SRow.set0 {B g n cap : Nat} {w : World} {e : Nat → LagS} (h : SRow B w g n cap e) {i : Nat} (hi : i < n) (z : Int) : SRow B (w.setCell ⟨g, i * 2, none⟩ (.int .i64 z)) g n cap (putF e i (z, (e i).2)) := by
  obtain ⟨cur, h1, h2, h3, h4, h5, h6⟩ := h.block
  refine .of_block (cur := cur.setIfInBounds (i * 2) (.int .i64 z)) h1 (by simp [World.setCell, Array.getElem?_modify, h2]) h3 h4 (by simp [h5]) ?_
  apply List.ext_getElem?
  intro j
  by_cases hj : j < n * 2
  · rw [hvals_at _ hj, List.getElem?_take_of_lt hj]
    have hc : cur[j]? = some (hcell e j) := by
      have := hvals_at e hj
      rw [← h6, List.getElem?_take_of_lt hj] at this
      simpa using this
    by_cases hji : j = i * 2
    · subst hji
      rw [hcell0]
      have : i * 2 < cur.size := by rw [h5]; omega
      simp [putF, this]
    · have e1 : (cur.setIfInBounds (i * 2) (.int .i64 z)).toList[j]? = cur[j]? := by
        rw [Array.getElem?_toList, Array.getElem?_setIfInBounds_ne (by omega)]
      rw [e1, hc]
      unfold hcell putF
      by_cases hk : j / 2 = i
      · rw [if_pos hk, show j % 2 = 1 by omega, hk]; rfl
      · rw [if_neg hk]
  · rw [List.getElem?_eq_none (by rw [List.length_take]; omega), List.getElem?_eq_none (by rw [hvals_len]; omega)]

theorem SRow.set1 {B g n cap : Nat} {w : World} {e : Nat → LagS} (h : SRow B w g n cap e) {i : Nat} (hi : i < n) (z : Int) : SRow B (w.setCell ⟨g, i * 2 + 1, none⟩ (.int .i64 z)) g n cap (putF e i ((e i).1, z)) := by
  obtain ⟨cur, h1, h2, h3, h4, h5, h6⟩ := h.block
  refine .of_block (cur := cur.setIfInBounds (i * 2 + 1) (.int .i64 z)) h1 (by simp [World.setCell, Array.getElem?_modify, h2]) h3 h4 (by simp [h5]) ?_
  apply List.ext_getElem?
  intro j
  by_cases hj : j < n * 2
  · rw [hvals_at _ hj, List.getElem?_take_of_lt hj]
    have hc : cur[j]? = some (hcell e j) := by
      have := hvals_at e hj
      rw [← h6, List.getElem?_take_of_lt hj] at this
      simpa using this
    by_cases hji : j = i * 2 + 1
    · subst hji
      rw [hcell1]
      have : i * 2 + 1 < cur.size := by rw [h5]; omega
      simp [putF, this]
    · have e1 : (cur.setIfInBounds (i * 2 + 1) (.int .i64 z)).toList[j]? = cur[j]? := by
        rw [Array.getElem?_toList, Array.getElem?_setIfInBounds_ne (by omega)]
      rw [e1, hc]
      unfold hcell putF
      by_cases hk : j / 2 = i
      · rw [if_pos hk, show j % 2 = 0 by omega, hk]; rfl
      · rw [if_neg hk]
  · rw [List.getElem?_eq_none (by rw [List.length_take]; omega), List.getElem?_eq_none (by rw [hvals_len]; omega)]

/-! ### Less, Len -/
def lessS (x y : LagS) : Bool := if x.2 = y.2 then decide (y.1 < x.1) else decide (x.2 < y.2)

theorem len_any (a : Option Addr) (n cap : Nat) (w : World) : Calls Try.prog 18 #[.slice a n cap] w fun e w' => e = .returned (.int .i64 n) ∧ w' = w := by
  go_enter Try.func18, Try.ntmps18
  go_wp2
  go_ret
  exact ⟨rfl, rfl⟩

theorem less_any {B g n cap : Nat} {w : World} {e : Nat → LagS} (h : SRow B w g n cap e) {i j : Nat} (hi : i < n) (hj : j < n) :
    Calls Try.prog 44 #[.slice (some ⟨g, 0, none⟩) n cap, .int .i64 i, .int .i64 j] w fun e' w' => e' = .returned (.bool (lessS (e i) (e j))) ∧ ∃ k, w' = w.drewN k := by
  obtain ⟨a0, a1⟩ := h.cells hi
  obtain ⟨b0, b1⟩ := h.cells hj
  obtain ⟨x, hx⟩ : ∃ x, e i = x := ⟨_, rfl⟩
  obtain ⟨y, hy⟩ : ∃ y, e j = y := ⟨_, rfl⟩
  rw [hx] at a0 a1 ⊢
  rw [hy] at b0 b1 ⊢
  obtain ⟨x1, x2⟩ := x
  obtain ⟨y1, y2⟩ := y
  clear hx hy h
  have hi2 : ((i : Int) < n) := by omega
  have hj2 : ((j : Int) < n) := by omega
  by_cases h0 : x2 = y2
  · have H0 : Hid (lessS (x1, x2) (y1, y2) = decide (y1 < x1)) := if_pos h0
    have hne : (x2 == y2) = true := beq_iff_eq.2 h0
    clear h0
    rw [H0.out]
    go_enter Try.func44, Try.ntmps44
    go_wp2
    go_quiet (fail)
    go_wp2
    go_quiet (fail)
    go_wp2
    go_ret
    rw [World.drewN_drewN]
    exact ⟨rfl, _, rfl⟩
  · have H0 : Hid (lessS (x1, x2) (y1, y2) = decide (x2 < y2)) := if_neg h0
    have hne : (x2 == y2) = false := beq_eq_false_iff_ne.2 h0
    clear h0
    rw [H0.out]
    go_enter Try.func44, Try.ntmps44
    go_wp2
    go_quiet (fail)
    go_wp2
    go_quiet (fail)
    go_wp2
    go_ret
    rw [World.drewN_drewN]
    exact ⟨rfl, _, rfl⟩


/-- Two lags change their places. -/
theorem swap_any {B g n cap : Nat} {w : World} {e : Nat → LagS} (h : SRow B w g n cap e) {i j : Nat} (hi : i < n) (hj : j < n) :
    Calls Try.prog 47 #[.slice (some ⟨g, 0, none⟩) n cap, .int .i64 i, .int .i64 j] w fun e' w' => e' = .returned (.tuple #[]) ∧ SRow B w' g n cap (swapF e i j) ∧ (∀ k, k ≠ g → w'.heap[k]? = w.heap[k]?) ∧ Below B w w' := by
  have HH : Hid (SRow B w g n cap e) := h
  obtain ⟨a0, a1⟩ := h.cells hi
  obtain ⟨b0, b1⟩ := h.cells hj
  have hf := h.frozen
  obtain ⟨x, hx⟩ : ∃ x, e i = x := ⟨_, rfl⟩
  obtain ⟨y, hy⟩ : ∃ y, e j = y := ⟨_, rfl⟩
  rw [hx] at a0 a1
  rw [hy] at b0 b1
  obtain ⟨x1, x2⟩ := x
  obtain ⟨y1, y2⟩ := y
  clear h
  have HX : Hid (e i = (x1, x2) ∧ e j = (y1, y2)) := ⟨hx, hy⟩
  clear hx hy
  have hi2 : ((i : Int) < n) := by omega
  have hj2 : ((j : Int) < n) := by omega
  obtain ⟨u1, k1⟩ : ∃ u, (w.setCell ⟨g, i * 2, none⟩ (.int .i64 y1)).cell? ⟨g, j * 2, none⟩ = some u := ⟨_, ((HH.out.set0 hi y1).cells hj).1⟩
  obtain ⟨u2, k2⟩ : ∃ u, ((w.setCell ⟨g, i * 2, none⟩ (.int .i64 y1)).setCell ⟨g, i * 2 + 1, none⟩ (.int .i64 y2)).cell? ⟨g, j * 2 + 1, none⟩ = some u := ⟨_, (((HH.out.set0 hi y1).set1 hi y2).cells hj).2⟩
  go_enter Try.func47, Try.ntmps47
  go_wp2
  go_region
  go_end0
  have h4 := (((HH.out.set0 hi y1).set1 hi y2).set0 hj x1).set1 hj x2
  obtain ⟨_, hBg, _⟩ := HH.out.block
  refine ⟨rfl, ?_, fun k hk => by simp [World.setCell, World.drew, Array.getElem?_modify, show g ≠ k from fun e => hk e.symm], (((((Below.refl B w).setCell hBg _).setCell hBg _).setCell hBg _).setCell hBg _).drew⟩
  show SRow B _ g n cap _
  have he : hvals (swapF e i j) n = hvals (putF (putF (putF (putF e i (y1, (e i).2)) i ((putF e i (y1, (e i).2) i).1, y2)) j (x1, (putF (putF e i (y1, (e i).2)) i ((putF e i (y1, (e i).2) i).1, y2) j).2)) j ((putF (putF (putF e i (y1, (e i).2)) i ((putF e i (y1, (e i).2) i).1, y2)) j (x1, (putF (putF e i (y1, (e i).2)) i ((putF e i (y1, (e i).2) i).1, y2) j).2) j).1, x2)) n := by
    refine hvals_congr fun k _ => ?_
    obtain ⟨q1, q2⟩ := HX.out
    unfold swapF putF
    by_cases hkj : k = j
    · subst hkj
      by_cases hki : k = i
      · subst hki
        rw [q1] at q2
        cases q2
        simp [q1]
      · simp [hki, q1]
    · by_cases hki : k = i
      · subst hki
        simp [hkj, q2]
      · simp [hkj, hki]
  unfold SRow
  rw [he]
  exact h4

/-! ### The heap behind a pointer -/
/-- At p lies a slice of n lags, in new memory. -/
structure HpV (B p n : Nat) (v : Value) (e : Nat → LagS) (w : World) : Prop where
  cell : w.heap[p]? = some (.cells #[v] 41 (0, 0))
  low : B ≤ p
  row : w.ownsRow B 33 2 v n (hvals e n)
  far : v.ownBlock ≠ some p
def Hp (B p n : Nat) (e : Nat → LagS) (w : World) : Prop := ∃ v, HpV B p n v e w

theorem HpV.lt {B p n : Nat} {v : Value} {e : Nat → LagS} {w : World} (h : HpV B p n v e w) : p < w.heap.size := (Array.getElem?_eq_some_iff.1 h.cell).1
theorem HpV.at {B p n : Nat} {v : Value} {e : Nat → LagS} {w : World} (h : HpV B p n v e w) : w.cell? ⟨p, 0, none⟩ = some v := by simp [World.cell?, h.cell]
theorem HpV.frozen {B p n : Nat} {v : Value} {e : Nat → LagS} {w : World} (h : HpV B p n v e w) : w.frozen? ⟨p, 0, none⟩ = false := by simp [World.frozen?, h.cell]
theorem HpV.drew {B p n : Nat} {v : Value} {e : Nat → LagS} {w : World} (h : HpV B p n v e w) : HpV B p n v e w.drew := ⟨h.cell, h.low, h.row, h.far⟩
theorem HpV.drewN {B p n : Nat} {v : Value} {e : Nat → LagS} {w : World} (h : HpV B p n v e w) (k : Nat) : HpV B p n v e (w.drewN k) := ⟨h.cell, h.low, h.row, h.far⟩
theorem Hp.drewN {B p n : Nat} {e : Nat → LagS} {w : World} (h : Hp B p n e w) (k : Nat) : Hp B p n e (w.drewN k) := by obtain ⟨v, h⟩ := h; exact ⟨v, h.drewN k⟩
theorem Hp.drew {B p n : Nat} {e : Nat → LagS} {w : World} (h : Hp B p n e w) : Hp B p n e w.drew := by obtain ⟨v, h⟩ := h; exact ⟨v, h.drew⟩

theorem ownBlock_row {w : World} {B : Nat} {e : TypeId} {z : Nat} {v : Value} {n : Nat} {xs : List Value} (h : w.ownsRow B e z v n xs) {k : Nat} (hk : v.ownBlock = some k) : B ≤ k ∧ k < w.heap.size := by
  obtain ⟨_, h1 | ⟨g, cap, cur, hv, hB, hh, _⟩⟩ := h
  · rw [h1.1] at hk; cases hk
  · rw [hv] at hk
    cases hk
    exact ⟨hB, (Array.getElem?_eq_some_iff.1 hh).1⟩

theorem row_of_block {w w' : World} {v : Value} {n : Nat} {xs : List Value} {B : Nat} {e : TypeId} {z : Nat} (h : w.ownsRow B e z v n xs) (hb : ∀ k, v.ownBlock = some k → w'.heap[k]? = w.heap[k]?) : w'.ownsRow B e z v n xs := by
  obtain ⟨hl, h⟩ := h
  refine ⟨hl, ?_⟩
  rcases h with h | ⟨g, cap, cur, rfl, hg, hh, hrest⟩
  · exact .inl h
  · exact .inr ⟨g, cap, cur, rfl, hg, (hb g rfl).trans hh, hrest⟩

/-- With lags in it the slice leads to a block. -/
theorem HpV.inRow {B p n : Nat} {v : Value} {e : Nat → LagS} {w : World} (h : HpV B p n v e w) (hn : 0 < n) : ∃ g cap, v = .slice (some ⟨g, 0, none⟩) n cap ∧ g ≠ p ∧ SRow B w g n cap e := by
  obtain ⟨hl, h1 | ⟨g, cap, cur, hv, hrest⟩⟩ := h.row
  · omega
  · refine ⟨g, cap, hv, fun e => h.far (by rw [hv, e]; rfl), ?_⟩
    subst hv
    exact h.row

theorem HpV.slice {B p n : Nat} {v : Value} {e : Nat → LagS} {w : World} (h : HpV B p n v e w) : ∃ a cap, v = .slice a n cap := by
  obtain ⟨hl, h1 | ⟨g, cap, cur, hv, hrest⟩⟩ := h.row
  · exact ⟨none, 0, by rw [h1.1, h1.2]⟩
  · exact ⟨_, cap, hv⟩

theorem HpV.far' {B p n g cap : Nat} {e : Nat → LagS} {w : World} (h : HpV B p n (.slice (some ⟨g, 0, none⟩) n cap) e w) : p ≠ g := fun e => h.far (by rw [e]; rfl)

theorem HpV.keep {B p n : Nat} {v : Value} {e : Nat → LagS} {w w' : World} (h : HpV B p n v e w) (hb : Below w.heap.size w w') : HpV B p n v e w' :=
  ⟨(hb.block p h.lt).trans h.cell, h.low, row_of_block h.row fun k hk => hb.block k (ownBlock_row h.row hk).2, h.far⟩

theorem Hp.keep {B p n : Nat} {e : Nat → LagS} {w w' : World} (h : Hp B p n e w) (hb : Below w.heap.size w w') : Hp B p n e w' := by obtain ⟨v, h⟩ := h; exact ⟨v, h.keep hb⟩

theorem info_lag : ∃ i, Try.prog.info? 33 = some i ∧ i.zero = some (.agg #[.int .i64 0, .int .i64 0]) ∧ i.size = 2 ∧ i.bytes = 16 := by
  have h : (Try.prog.info? 33).map (fun i => (i.zero, i.size, i.bytes)) = some (some (.agg #[.int .i64 0, .int .i64 0]), 2, 16) := by kernel_rfl
  obtain ⟨i, hi, hz⟩ := Option.map_eq_some_iff.1 h
  simp only [Prod.mk.injEq] at hz
  exact ⟨i, hi, hz.1, hz.2.1, hz.2.2⟩

/-- 'append' of one lag, as one step of a region that draws. -/
theorem step_append_lag {ops : Array Oper} {o : Oper} {a : Act} {w W : World} {K : Act → World → Prop} {Q : Exit → Act → World → Prop} {E : Prop} (hgw : w.grownBy W none) (B n : Nat) (e : Nat → LagS) (x : LagS)
    (hnew : W.heap[w.heap.size]? = some (.cells #[.int .i64 x.1, .int .i64 x.2] 33)) (v : Value)
    (hown : w.ownsRow B 33 2 v n (hvals e n)) (hn : n ≤ 10000) (p : Nat) (hp : p < w.heap.size) (hB : B ≤ p) (hpv : v.ownBlock ≠ some p)
    (hg : o.guard = none) (s y : Operand)
    (ho : o.op = .call { callee := .builtin .append, args := #[s, y], argTypes := #[41, 41] })
    (hs : a.eval s = v) (hx : a.eval y = .slice (some ⟨w.heap.size, 0, none⟩) 1 1)
    (h : ∀ g cap w', w'.ownsRow B 33 2 (.slice (some ⟨g, 0, none⟩) (n + 1) cap) (n + 1) (hvals (putF e n x) (n + 1)) → w.grownBy w' v.ownBlock → g ≠ p →
      (∀ i, w'.cell? ⟨p, i, none⟩ = w.cell? ⟨p, i, none⟩) → (∀ i, w'.frozen? ⟨p, i, none⟩ = w.frozen? ⟨p, i, none⟩) → K (a.put o.dst (.slice (some ⟨g, 0, none⟩) (n + 1) cap)) w') :
    if Region.wanted o (yielded ops a.tmps) = true then Oper.wp Try.prog o a W K Q else E := by
  obtain ⟨i, hi, h1, h2, h3⟩ := info_lag
  have hownW : W.ownsRow B 33 2 v n (hvals e n) := row_of_block hown fun k hk => hgw.block k (ownBlock_row hown hk).2 (fun e => by cases e)
  have hsz : w.heap.size ≤ W.heap.size := hgw.size
  refine step_append_lies _ hg s y 41 ho B 33 i (.agg #[.int .i64 0, .int .i64 0]) 2 16 Try.underlying41 hi h1 h2 h3 rfl (by decide) v n (hvals e n) hs hownW ⟨w.heap.size, 0, none⟩ 1 1 [.int .i64 x.1, .int .i64 x.2] hx rfl
    (World.news_of_block hnew)
    (by intro u hu; simp at hu; rcases hu with rfl | rfl <;> rfl) (by decide) (by unfold maxLen; omega) (by omega) (by omega) _ rfl ?_
  intro g cap w' h4 h5 h6 _
  have e1 : hvals (putF e n x) (n + 1) = hvals e n ++ [.int .i64 x.1, .int .i64 x.2] := by
    rw [hvals_snoc, hvals_congr (e := putF e n x) (f := e) (fun k hk => if_neg (by omega))]
    unfold putF
    rw [if_pos rfl]
  have hgr : w.grownBy w' v.ownBlock := ⟨h5.os.trans hgw.os, h5.tape.trans hgw.tape, h5.output.trans hgw.output, Nat.le_trans hgw.size h5.size, fun k hk hne => by
    rw [h5.block k (Nat.lt_of_lt_of_le hk hgw.size) hne]
    exact hgw.block k hk (fun e => by cases e)⟩
  refine h g cap w' (by rw [e1]; exact h4) hgr ?_ (fun i => World.cell?_of_block (w := w) (hgr.block p hp (fun e => hpv e.symm))) (fun i => World.frozen?_of_block (w := w) (hgr.block p hp (fun e => hpv e.symm)))
  rcases h6 with h6 | h6
  · intro hgp; exact hpv (hgp ▸ h6)
  · intro hgp; omega

theorem HpV.pushed {B p n g cap : Nat} {v : Value} {e e' : Nat → LagS} {w w' : World} (h : HpV B p n v e w) (hg : w.grownBy w' v.ownBlock) (ho : w'.ownsRow B 33 2 (.slice (some ⟨g, 0, none⟩) (n + 1) cap) (n + 1) (hvals e' (n + 1))) (hne : g ≠ p) :
    Hp B p (n + 1) e' (w'.setCell ⟨p, 0, none⟩ (.slice (some ⟨g, 0, none⟩) (n + 1) cap)) ∧ Below B w (w'.setCell ⟨p, 0, none⟩ (.slice (some ⟨g, 0, none⟩) (n + 1) cap)) := by
  have hp' : w'.heap[p]? = some (.cells #[v] 41 (0, 0)) := (hg.block p h.lt (fun e => h.far e.symm)).trans h.cell
  have hl := h.lt
  have hlow := h.low
  refine ⟨⟨.slice (some ⟨g, 0, none⟩) (n + 1) cap, ⟨by simp [World.setCell, Array.getElem?_modify, hp'], h.low, row_of_block ho fun k hk => ?_, fun e => hne (by cases e; rfl)⟩⟩, ((Below.refl B w).grown hg (by omega) fun k hk => (ownBlock_row h.row hk).1).setCell h.low _⟩
  cases hk
  simp [World.setCell, Array.getElem?_modify, show p ≠ g from fun e => hne e.symm]

theorem assert_lag (x1 x2 : Int) (w : World) : (Instr.typeAssert (.iface 33 (.agg #[.int .i64 x1, .int .i64 x2])) 20 33 false).run Try.prog w = .ok (.agg #[.int .i64 x1, .int .i64 x2]) w := by kernel_rfl

theorem push_any {B p n : Nat} {e : Nat → LagS} {w : World} (h : Hp B p n e w) (hn : n ≤ 10000) (x1 x2 : Int) :
    Calls Try.prog 46 #[.pointer (some ⟨p, 0, none⟩), .iface 33 (.agg #[.int .i64 x1, .int .i64 x2])] w fun e' w' => e' = .returned (.tuple #[]) ∧ Hp B p (n + 1) (putF e n (x1, x2)) w' ∧ Below B w w' := by
  obtain ⟨v, h⟩ := h
  have HH : Hid (HpV B p n v e w) := h
  have k0 := h.at
  have kf := h.frozen
  have HSZ : Hid (p < w.heap.size) := h.lt
  have HA : ∀ o, (w.alloc o).cell? ⟨p, 0, none⟩ = some v := fun o => (World.cell?_of_block (w := w) (Below.heap_alloc w o p HSZ.out)).trans k0
  have HT := assert_lag x1 x2
  clear h
  go_enter Try.func46, Try.ntmps46
  go_wp2
  go_region_law ((go_loud (refine step_append_lag (w := w) (by first | exact ⟨rfl, rfl, rfl, by simp, fun _ hk _ => Below.heap_alloc w _ _ hk⟩) B n e (x1, x2) (by first | exact heap_alloc_new w _ | exact heap_alloc_new w.drew _) v HH.out.row hn p HSZ.out HH.out.low HH.out.far (by rfl) (.tmp 7) (.tmp 10) (by rfl) (by rfl) (by rfl) ?_; intro g2 cap2 w2 ho2 hg2 hat2 hcc hff)))
  all_goals
    go_end0
    obtain ⟨q1, q2⟩ := HH.out.pushed hg2 ho2 hat2
    exact ⟨rfl, q1, q2⟩

/-- The last lag is taken away. -/
theorem HpV.popped {B p n g cap : Nat} {e : Nat → LagS} {w w' : World} (h : HpV B p (n + 1) (.slice (some ⟨g, 0, none⟩) (n + 1) cap) e w) (hb : Below w.heap.size w w') :
    HpV B p n (.slice (some ⟨g, 0, none⟩) n cap) e (w'.setCell ⟨p, 0, none⟩ (.slice (some ⟨g, 0, none⟩) n cap)) := by
  have h' := h.keep hb
  obtain ⟨cur, h1, h2, h3, h4, h5, h6⟩ := SRow.block (show SRow B w' g (n + 1) cap e from h'.row)
  have hne : g ≠ p := fun e => h.far (by rw [e]; rfl)
  refine ⟨by simp [World.setCell, Array.getElem?_modify, h'.cell], h.low, ⟨hvals_len e n, .inr ⟨g, cap, cur, rfl, h1, ?_, by omega, h4, h5, ?_⟩⟩, fun e => hne (by cases e; rfl)⟩
  · simp [World.setCell, Array.getElem?_modify, show p ≠ g from fun e => hne e.symm, h2]
  · rw [← hvals_take, ← h6, List.take_take]
    congr 1
    omega

theorem pop_g {B p n g cap : Nat} {e : Nat → LagS} {w : World} (h : HpV B p (n + 1) (.slice (some ⟨g, 0, none⟩) (n + 1) cap) e w) (hn : n ≤ 10000) :
    Calls Try.prog 45 #[.pointer (some ⟨p, 0, none⟩)] w fun e' w' => e' = .returned (.iface 33 (.agg #[.int .i64 (e n).1, .int .i64 (e n).2])) ∧ HpV B p n (.slice (some ⟨g, 0, none⟩) n cap) e w' ∧ (w.heap.size ≤ w'.heap.size ∧ ∀ k, k < w.heap.size → k ≠ p → w'.heap[k]? = w.heap[k]?) ∧ Below B w w' := by
  have hr : SRow B w g (n + 1) cap e := h.row
  have HH : Hid (HpV B p (n + 1) (.slice (some ⟨g, 0, none⟩) (n + 1) cap) e w) := h
  have k0 := h.at
  have kf := h.frozen
  have HSZ : Hid (p < w.heap.size ∧ B ≤ p) := ⟨h.lt, h.low⟩
  have HA : ∀ o, (w.alloc o).cell? ⟨p, 0, none⟩ = some (.slice (some ⟨g, 0, none⟩) (n + 1) cap) := fun o => (World.cell?_of_block (w := w) (Below.heap_alloc w o p HSZ.out.1)).trans k0
  have HF : ∀ o, (w.alloc o).frozen? ⟨p, 0, none⟩ = false := fun o => (World.frozen?_of_block (w := w) (Below.heap_alloc w o p HSZ.out.1)).trans kf
  have hlt := h.lt
  have hcap : n + 1 ≤ cap := by obtain ⟨_, _, _, h3, _⟩ := hr.block; exact h3
  have hcap1 : n ≤ cap := by omega
  have hcap2 : (n : Int) ≤ cap := by omega
  obtain ⟨c0, c1⟩ := hr.cells (Nat.lt_succ_self n)
  obtain ⟨x, hx⟩ : ∃ x, e n = x := ⟨_, rfl⟩
  rw [hx] at c0 c1 ⊢
  obtain ⟨x1, x2⟩ := x
  clear h hx hr
  go_enter Try.func45, Try.ntmps45
  go_wp2
  go_ret
  have h1 := HH.out.popped (Below.refl _ w)
  have hb := HSZ.out
  refine ⟨rfl, h1.keep ((Below.refl _ _).alloc (Nat.le_refl _) _), ⟨by simp [World.setCell], fun k hk hkp => (Below.heap_alloc _ _ k (by simpa [World.setCell] using hk)).trans (by simp [World.setCell, Array.getElem?_modify, show p ≠ k from fun e => hkp e.symm])⟩, ((Below.refl B w).setCell hb.2 _).alloc (by simp [World.setCell]; omega) _⟩

end Pit
end Go.Proofs.Ytamiokleolfnoaa
