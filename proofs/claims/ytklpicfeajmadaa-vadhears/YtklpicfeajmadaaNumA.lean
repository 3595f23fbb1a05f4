/- Lists of whole numbers in memory: those that are read, those that a call has made and writes to. -/
import Derived.Test.YtklpicfeajmadaaLsfM
import Derived.Test.YtklpicfeajmadaaActs
import Derived.Deep.RegionHeld3
namespace Go.Proofs.Ytklpicfeajmadaa
open Go.RowKit

/-- n numbers zs lie at a. -/
structure Zs (w : World) (a : Option Addr) (n : Nat) (zs : List Int) : Prop where
  len : zs.length = n
  at_ : 0 < n → ∃ b off, a = some ⟨b, off, .none⟩ ∧ b < w.heap.size ∧ ∀ i, i < n → w.cell? ⟨b, off + i, .none⟩ = some (.int .i64 (zs[i]?.getD 0))
theorem Zs.keep {w w' : World} {a : Option Addr} {n : Nat} {zs : List Int} (h : Zs w a n zs) (hb : Below w.heap.size w w') : Zs w' a n zs :=
  ⟨h.len, fun h0 => by
    obtain ⟨b, off, e, hl, hc⟩ := h.at_ h0
    exact ⟨b, off, e, Nat.lt_of_lt_of_le hl hb.size, fun i hi => (hb.cell (p := ⟨b, off + i, .none⟩) hl).trans (hc i hi)⟩⟩
theorem Zs.drewN {w : World} {a : Option Addr} {n : Nat} {zs : List Int} (h : Zs w a n zs) (k : Nat) : Zs (w.drewN k) a n zs := h.keep (below_drewN (Below.refl _ _) k)
theorem Zs.drew {w : World} {a : Option Addr} {n : Nat} {zs : List Int} (h : Zs w a n zs) : Zs w.drew a n zs := h.keep (Below.refl _ _).drew
theorem Zs.alloc {w : World} {a : Option Addr} {n : Nat} {zs : List Int} (h : Zs w a n zs) (o : Obj) : Zs (w.alloc o) a n zs := h.keep ((Below.refl _ _).alloc (Nat.le_refl _) o)
theorem Zs.nil (w : World) (a : Option Addr) : Zs w a 0 [] := ⟨rfl, fun h => absurd h (by decide)⟩
theorem Zs.of_new {e : TypeId} {B : Nat} {w : World} {a : Option Addr} {n : Nat} {zs : List Int} (h : NewRow e B w a zs) (hl : zs.length = n) : Zs w a n zs :=
  ⟨hl, fun h0 => by
    obtain ⟨b, ha, _, hb, hc⟩ := h.cells (by omega)
    exact ⟨b, 0, ha, hb, fun i hi => by rw [Nat.zero_add]; exact hc i (by omega)⟩⟩

/-! ### Written to -/
theorem NewRow.cellAt {e : TypeId} {B : Nat} {w : World} {b : Nat} {zs : List Int} (h : NewRow e B w (some ⟨b, 0, .none⟩) zs) {i : Nat} (hi : i < zs.length) : w.cell? ⟨b, i, .none⟩ = some (.int .i64 (zs[i]?.getD 0)) := by
  obtain ⟨b', ha, _, _, hc⟩ := h.cells (by omega)
  cases ha
  exact hc i hi
theorem NewRow.ge {e : TypeId} {B : Nat} {w : World} {b : Nat} {zs : List Int} (h : NewRow e B w (some ⟨b, 0, .none⟩) zs) (hi : 0 < zs.length) : B ≤ b ∧ b < w.heap.size := by
  obtain ⟨b', ha, h1, h2, _⟩ := h.cells hi
  cases ha
  exact ⟨h1, h2⟩
theorem NewRow.frozenAt {e : TypeId} {B : Nat} {w : World} {b : Nat} {zs : List Int} (h : NewRow e B w (some ⟨b, 0, .none⟩) zs) (hi : 0 < zs.length) (i : Nat) : w.frozen? ⟨b, i, .none⟩ = false := by
  rcases h with h | ⟨b', c, ha, _, hh, _⟩
  · subst h; simp at hi
  · cases ha
    simp [World.frozen?, hh]
theorem NewRow.set {e : TypeId} {B : Nat} {w : World} {b : Nat} {zs : List Int} (h : NewRow e B w (some ⟨b, 0, .none⟩) zs) (i : Nat) (v : Int) :
    NewRow e B (w.setCell ⟨b, i, .none⟩ (.int .i64 v)) (some ⟨b, 0, .none⟩) (zs.set i v) := by
  rcases h with h | ⟨b', c, ha, hB, hh, hc⟩
  · subst h; exact .inl rfl
  · cases ha
    refine .inr ⟨b, c.setIfInBounds i (.int .i64 v), rfl, hB, ?_, fun j hj => ?_⟩
    · simp [World.setCell, Array.getElem?_modify, hh]
    · rw [List.length_set] at hj
      have hcj := hc j hj
      have hsz : j < c.size := by
        rcases Nat.lt_or_ge j c.size with h | h
        · exact h
        · rw [Array.getElem?_eq_none h] at hcj; cases hcj
      rw [Array.getElem?_setIfInBounds, List.getElem?_set]
      by_cases e1 : i = j
      · subst e1
        simp [hsz, hj]
      · rw [if_neg e1, if_neg e1]
        exact hcj
theorem NewRow.setOther {e : TypeId} {B : Nat} {w : World} {a : Option Addr} {zs : List Int} (h : NewRow e B w a zs) {p : Addr} (hp : ∀ b, a = some ⟨b, 0, .none⟩ → b ≠ p.block) (v : Value) : NewRow e B (w.setCell p v) a zs := by
  rcases h with h | ⟨b, c, ha, hB, hh, hc⟩
  · exact .inl h
  · exact .inr ⟨b, c, ha, hB, by rw [Below.heap_setCell _ _ _ _ (hp b ha)]; exact hh, hc⟩
theorem NewRow.keep {e : TypeId} {B : Nat} {w w' : World} {a : Option Addr} {zs : List Int} (h : NewRow e B w a zs) (hb : Below w.heap.size w w') : NewRow e B w' a zs := h.below hb (Nat.le_refl _)
theorem NewRow.drew {e : TypeId} {B : Nat} {w : World} {a : Option Addr} {zs : List Int} (h : NewRow e B w a zs) : NewRow e B w.drew a zs := h.keep (Below.refl _ _).drew
theorem NewRow.drewN {e : TypeId} {B : Nat} {w : World} {a : Option Addr} {zs : List Int} (h : NewRow e B w a zs) (k : Nat) : NewRow e B (w.drewN k) a zs := h.keep (below_drewN (Below.refl _ _) k)
theorem NewRow.alloc {e : TypeId} {B : Nat} {w : World} {a : Option Addr} {zs : List Int} (h : NewRow e B w a zs) (o : Obj) : NewRow e B (w.alloc o) a zs := h.keep ((Below.refl _ _).alloc (Nat.le_refl _) o)
theorem NewRow.some_of {e : TypeId} {B : Nat} {w : World} {a : Option Addr} {zs : List Int} (h : NewRow e B w a zs) (hz : 0 < zs.length) : ∃ b, a = some ⟨b, 0, .none⟩ ∧ B ≤ b ∧ b < w.heap.size := by
  obtain ⟨b, h1, h2, h3, _⟩ := h.cells hz
  exact ⟨b, h1, h2, h3⟩
/-- What make lays. -/
theorem NewRow.made {e : TypeId} (w : World) (n : Nat) : NewRow e w.heap.size (w.alloc (.cells (madeCells #[.int .i64 0] n) e)) (some ⟨w.heap.size, 0, .none⟩) (List.replicate n 0) :=
  NewRow.of_rowIs (World.rowIs_made w (.int .i64 0) n e) (Nat.le_refl _) (by simp) (fun i hi => by simp [hi])

/-- A slice of numbers that came in. -/
theorem Zs.of_isRow {w : World} {a : Option Addr} {len cap : Nat} {q : List Int} (h : IsRow .i64 w a len cap q) : Zs w a len (q.take len) ∧ len ≤ maxLen ∧ (a = .none → len = 0 ∧ cap = 0) := by
  rcases h with ⟨rfl, rfl, rfl, rfl⟩ | ⟨x, rfl, hl, hm, hq, hc, _⟩
  · exact ⟨Zs.nil _ _, Nat.zero_le _, fun _ => ⟨rfl, rfl⟩⟩
  · refine ⟨⟨by rw [List.length_take]; omega, fun h0 => ?_⟩, by omega, fun h => (by cases h)⟩
    have hx0 := hc 0 (by omega)
    have e0 : x.add 0 = x := rfl
    rw [e0] at hx0
    obtain ⟨b, o, s⟩ := x
    obtain rfl : s = none := World.cell?_spot hx0
    refine ⟨b, o, rfl, World.block_lt_of_cell? w _ hx0, fun i hi => ?_⟩
    have hci := hc i (by omega)
    rw [Addr.add_lit] at hci
    rw [hci, List.getElem?_take_of_lt hi]
    simp [List.getD]

theorem set_own {l : List Int} {i : Nat} (h : i < l.length) : l.set i (l[i]?.getD 0) = l := by
  rw [List.getElem?_eq_getElem h]
  exact List.set_getElem_self h

/-! ### A list that is turned into another, place by place -/
def mixL (L l0 : List Int) (m : Nat) : List Int := L.take m ++ l0.drop m
theorem mixL_zero (L l0 : List Int) : mixL L l0 0 = l0 := rfl
theorem mixL_len {L l0 : List Int} {n m : Nat} (h : L.length = n) (h0 : l0.length = n) (hm : m ≤ n) : (mixL L l0 m).length = n := by
  unfold mixL
  rw [List.length_append, List.length_take, List.length_drop]
  omega
theorem mixL_all {L l0 : List Int} {n : Nat} (h : L.length = n) (h0 : l0.length = n) : mixL L l0 n = L := by
  unfold mixL
  rw [List.take_of_length_le (by omega), List.drop_eq_nil_of_le (by omega), List.append_nil]
theorem mixL_at {L l0 : List Int} {n m : Nat} (h : L.length = n) (h0 : l0.length = n) (hm : m < n) : (mixL L l0 m)[m]?.getD 0 = l0[m]?.getD 0 := by
  unfold mixL
  rw [List.getElem?_append_right (by rw [List.length_take]; omega), List.length_take, List.getElem?_drop, show m + (m - min m L.length) = m by omega]
theorem mixL_step {L l0 : List Int} {n m : Nat} (h : L.length = n) (h0 : l0.length = n) (hm : m < n) : mixL L l0 (m + 1) = (mixL L l0 m).set m (L[m]?.getD 0) := by
  unfold mixL
  rw [take_snoc (by omega), drop_cons (l := l0) (i := m) (by omega), set_mid _ _ _ _ (by rw [List.length_take]; omega), List.append_assoc]
  rfl

theorem bcell {W w1 : World} (hb : Below W.heap.size W w1) : (∀ b o, b < W.heap.size → w1.cell? ⟨b, o, none⟩ = W.cell? ⟨b, o, none⟩) ∧ (∀ b o, b < W.heap.size → w1.frozen? ⟨b, o, none⟩ = W.frozen? ⟨b, o, none⟩) :=
  ⟨fun b o h => hb.cell (p := ⟨b, o, none⟩) h, fun b o h => hb.frozen (p := ⟨b, o, none⟩) h⟩

theorem bcell_alloc {W w1 : World} (hb : Below W.heap.size W w1) : (∀ q b o, b < W.heap.size → (w1.alloc q).cell? ⟨b, o, none⟩ = W.cell? ⟨b, o, none⟩) ∧ (∀ q b o, b < W.heap.size → (w1.alloc q).frozen? ⟨b, o, none⟩ = W.frozen? ⟨b, o, none⟩) :=
  ⟨fun q b o h => (hb.alloc hb.size q).cell (p := ⟨b, o, none⟩) h, fun q b o h => (hb.alloc hb.size q).frozen (p := ⟨b, o, none⟩) h⟩

/-! ### One statement in any of its orders: two blocks, wherever they lie -/
def AtF (A : Nat → Nat → Act) (F : Nat → Nat → World → Prop) : Exit → Act → World → Prop
  | .normal, a, W => ∃ x r, a = A x r ∧ F x r W
  | _, _, _ => False
theorem AtF.goes {A : Nat → Nat → Act} {F : Nat → Nat → World → Prop} {Q : Exit → Act → World → Prop} (h : ∀ x r W, F x r W → Q .normal (A x r) W) : ∀ (e : Exit) (a : Act) (w : World), AtF A F e a w → Q e a w := fun e a w h' => by
  cases e with
  | normal =>
    obtain ⟨x, r, rfl, hf⟩ := h'
    exact h x r w hf
  | _ => exact h'.elim

/-- Nothing has turned but block g, nothing is new. -/
def Bar (g : Nat) (w w' : World) : Prop := w'.heap.size = w.heap.size ∧ ∀ k, k ≠ g → w'.heap[k]? = w.heap[k]?
theorem Bar.refl (g : Nat) (w : World) : Bar g w w := ⟨rfl, fun _ _ => rfl⟩
theorem Bar.set {g : Nat} {w w' : World} (h : Bar g w w') (i : Nat) (u : Value) : Bar g w (w'.setCell ⟨g, i, none⟩ u) := ⟨by rw [← h.1]; simp, fun k hk => (Below.heap_setCell w' ⟨g, i, none⟩ u k hk).trans (h.2 k hk)⟩
theorem Bar.drew {g : Nat} {w w' : World} (h : Bar g w w') : Bar g w w'.drew := h
theorem Bar.cell {g : Nat} {w w' : World} (h : Bar g w w') {b o : Nat} (hb : b ≠ g) : w'.cell? ⟨b, o, none⟩ = w.cell? ⟨b, o, none⟩ := World.cell?_of_block (h.2 b hb)

theorem NewRow.off {e : TypeId} {B : Nat} {w : World} {g : Nat} {zs : List Int} (h : NewRow e B w (some ⟨g, 0, .none⟩) zs) {p : Addr} (hp : g ≠ p.block) (u : Value) : NewRow e B (w.setCell p u) (some ⟨g, 0, .none⟩) zs := h.setOther (fun b e => by cases e; exact hp) u

theorem zs_lit {e : TypeId} (w : World) (zs : List Int) {vs : Array Value} (hv : vs = (zs.map (Value.int .i64)).toArray) {n g : Nat} (hn : zs.length = n) (hg : g = w.heap.size) : Zs (w.alloc (.cells vs e)) (some ⟨g, 0, none⟩) n zs := by
  subst hv
  subst hg
  exact Zs.of_new (newRow_alloc w zs e) hn
theorem zs_made {e : TypeId} (w : World) (n : Nat) {g : Nat} (hg : g = w.heap.size) : Zs (w.alloc (.cells (madeCells #[.int .i64 0] n) e)) (some ⟨g, 0, none⟩) n (List.replicate n 0) := by
  subst hg
  exact Zs.of_new (NewRow.made w n) (by simp)
/-- Two numbers at a, as cells. -/
theorem two_cells {e : TypeId} {B : Nat} {w : World} {a : Option Addr} {x y : Int} (h : NewRow e B w a [x, y]) : ∃ b, a = some ⟨b, 0, none⟩ ∧ b < w.heap.size ∧ w.cell? ⟨b, 0, none⟩ = some (.int .i64 x) ∧ w.cell? ⟨b, 1, none⟩ = some (.int .i64 y) := by
  obtain ⟨b, h1, _, h3, hc⟩ := h.cells (by simp)
  exact ⟨b, h1, h3, hc 0 (by simp), hc 1 (by simp)⟩

theorem zs_adds {w : World} {a : Option Addr} {n : Nat} {zs : List Int} (h : Zs w a n zs) (h0 : 0 < n) : ∃ x, a = some x ∧ ∀ i, i < n → w.cell? (x.add i) = some (.int .i64 (zs[i]?.getD 0)) := by
  obtain ⟨b, off, e, _, hc⟩ := h.at_ h0
  exact ⟨_, e, fun i hi => by rw [Addr.add_lit]; exact hc i hi⟩

end Go.Proofs.Ytklpicfeajmadaa
