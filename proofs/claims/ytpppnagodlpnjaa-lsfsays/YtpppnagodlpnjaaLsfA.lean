/- Lists of whole numbers in memory: those that are read, those that a call has made and writes to. -/
import Derived.Test.YtpppnagodlpnjaaLsfN
import Derived.Test.YtpppnagodlpnjaaActs
import Derived.Deep.RegionHeld3
namespace Go.Proofs.Ytpppnagodlpnjaa
open Go.RowKit

/-- n numbers zs lie at a. -/
structure Zs (w : World) (a : Option Addr) (n : Nat) (zs : List Int) : Prop where
  len : zs.length = n
  at_ : 0 < n → ∃ b off, a = some ⟨b, off, .none⟩ ∧ b < w.heap.size ∧ ∀ i, i < n → w.cell? ⟨b, off + i, .none⟩ = some (.int .i64 (zs[i]?.getD 0))
theorem Zs.keep {w w' : World} {a : Option Addr} {n : Nat} {zs : List Int} (h : Zs w a n zs) (hb : Below w.heap.size w w') : Zs w' a n zs :=
  ⟨h.len, fun h0 => by
    obtain ⟨b, off, e, hl, hc⟩ := h.at_ h0
    exact ⟨b, off, e, Nat.lt_of_lt_of_le hl hb.size, fun i hi => (hb.cell (p := ⟨b, off + i, .none⟩) hl).trans (hc i hi)⟩⟩
theorem Zs.drewN {w : World} {a : Option Addr} {n : Nat} {zs : List Int} (h : Zs w a n zs) (k : Nat) : Zs (w.drewN k) a n zs := h.keep (below_drewN (Below.refl _ _) k)
theorem Zs.drew {w : World} {a : Option Addr} {n : Nat} {zs : List Int} (h : Zs w a n zs) : Zs w.drew a n zs := h.keep (Below.refl _ _).drew
theorem Zs.alloc {w : World} {a : Option Addr} {n : Nat} {zs : List Int} (h : Zs w a n zs) (o : Obj) : Zs (w.alloc o) a n zs := h.keep ((Below.refl _ _).alloc (Nat.le_refl _) o)
theorem Zs.nil (w : World) (a : Option Addr) : Zs w a 0 [] := ⟨rfl, fun h => absurd h (by decide)⟩
theorem Zs.of_new {e : TypeId} {B : Nat} {w : World} {a : Option Addr} {n : Nat} {zs : List Int} (h : NewRow e B w a zs) (hl : zs.length = n) : Zs w a n zs :=
  ⟨hl, fun h0 => by
    obtain ⟨b, ha, _, hb, hc⟩ := h.cells (by omega)
    exact ⟨b, 0, ha, hb, fun i hi => by rw [Nat.zero_add]; exact hc i (by omega)⟩⟩

/-! ### Written to -/
theorem NewRow.cellAt {e : TypeId} {B : Nat} {w : World} {b : Nat} {zs : List Int} (h : NewRow e B w (some ⟨b, 0, .none⟩) zs) {i : Nat} (hi : i < zs.length) : w.cell? ⟨b, i, .none⟩ = some (.int .i64 (zs[i]?.getD 0)) := by
  obtain ⟨b', ha, _, _, hc⟩ := h.cells (by omega)
  cases ha
  exact hc i hi
theorem NewRow.ge {e : TypeId} {B : Nat} {w : World} {b : Nat} {zs : List Int} (h : NewRow e B w (some ⟨b, 0, .none⟩) zs) (hi : 0 < zs.length) : B ≤ b ∧ b < w.heap.size := by
  obtain ⟨b', ha, h1, h2, _⟩ := h.cells hi
  cases ha
  exact ⟨h1, h2⟩
theorem NewRow.frozenAt {e : TypeId} {B : Nat} {w : World} {b : Nat} {zs : List Int} (h : NewRow e B w (some ⟨b, 0, .none⟩) zs) (hi : 0 < zs.length) (i : Nat) : w.frozen? ⟨b, i, .none⟩ = false := by
  rcases h with h | ⟨b', c, ha, _, hh, _⟩
  · subst h; simp at hi
  · cases ha
    simp [World.frozen?, hh]
theorem NewRow.set {e : TypeId} {B : Nat} {w : World} {b : Nat} {zs : List Int} (h : NewRow e B w (some ⟨b, 0, .none⟩) zs) (i : Nat) (v : Int) :
    NewRow e B (w.setCell ⟨b, i, .none⟩ (.int .i64 v)) (some ⟨b, 0, .none⟩) (zs.set i v) := by
  rcases h with h | ⟨b', c, ha, hB, hh, hc⟩
  · subst h; exact .inl rfl
  · cases ha
    refine .inr ⟨b, c.setIfInBounds i (.int .i64 v), rfl, hB, ?_, fun j hj => ?_⟩
    · simp [World.setCell, Array.getElem?_modify, hh]
    · rw [List.length_set] at hj
      have hcj := hc j hj
      have hsz : j < c.size := by
        rcases Nat.lt_or_ge j c.size with h | h
        · exact h
        · rw [Array.getElem?_eq_none h] at hcj; cases hcj
      rw [Array.getElem?_setIfInBounds, List.getElem?_set]
      by_cases e1 : i = j
      · subst e1
        simp [hsz, hj]
      · rw [if_neg e1, if_neg e1]
        exact hcj
theorem NewRow.setOther {e : TypeId} {B : Nat} {w : World} {a : Option Addr} {zs : List Int} (h : NewRow e B w a zs) {p : Addr} (hp : ∀ b, a = some ⟨b, 0, .none⟩ → b ≠ p.block) (v : Value) : NewRow e B (w.setCell p v) a zs := by
  rcases h with h | ⟨b, c, ha, hB, hh, hc⟩
  · exact .inl h
  · exact .inr ⟨b, c, ha, hB, by rw [Below.heap_setCell _ _ _ _ (hp b ha)]; exact hh, hc⟩
theorem NewRow.keep {e : TypeId} {B : Nat} {w w' : World} {a : Option Addr} {zs : List Int} (h : NewRow e B w a zs) (hb : Below w.heap.size w w') : NewRow e B w' a zs := h.below hb (Nat.le_refl _)
theorem NewRow.drew {e : TypeId} {B : Nat} {w : World} {a : Option Addr} {zs : List Int} (h : NewRow e B w a zs) : NewRow e B w.drew a zs := h.keep (Below.refl _ _).drew
theorem NewRow.drewN {e : TypeId} {B : Nat} {w : World} {a : Option Addr} {zs : List Int} (h : NewRow e B w a zs) (k : Nat) : NewRow e B (w.drewN k) a zs := h.keep (below_drewN (Below.refl _ _) k)
theorem NewRow.alloc {e : TypeId} {B : Nat} {w : World} {a : Option Addr} {zs : List Int} (h : NewRow e B w a zs) (o : Obj) : NewRow e B (w.alloc o) a zs := h.keep ((Below.refl _ _).alloc (Nat.le_refl _) o)
theorem NewRow.some_of {e : TypeId} {B : Nat} {w : World} {a : Option Addr} {zs : List Int} (h : NewRow e B w a zs) (hz : 0 < zs.length) : ∃ b, a = some ⟨b, 0, .none⟩ ∧ B ≤ b ∧ b < w.heap.size := by
  obtain ⟨b, h1, h2, h3, _⟩ := h.cells hz
  exact ⟨b, h1, h2, h3⟩
/-- What make lays. -/
theorem NewRow.made {e : TypeId} (w : World) (n : Nat) : NewRow e w.heap.size (w.alloc (.cells (madeCells #[.int .i64 0] n) e)) (some ⟨w.heap.size, 0, .none⟩) (List.replicate n 0) :=
  NewRow.of_rowIs (World.rowIs_made w (.int .i64 0) n e) (Nat.le_refl _) (by simp) (fun i hi => by simp [hi])

/-- A slice of numbers that came in. -/
theorem Zs.of_isRow {w : World} {a : Option Addr} {len cap : Nat} {q : List Int} (h : IsRow .i64 w a len cap q) : Zs w a len (q.take len) ∧ len ≤ maxLen ∧ (a = .none → len = 0 ∧ cap = 0) := by
  rcases h with ⟨rfl, rfl, rfl, rfl⟩ | ⟨x, rfl, hl, hm, hq, hc, _⟩
  · exact ⟨Zs.nil _ _, Nat.zero_le _, fun _ => ⟨rfl, rfl⟩⟩
  · refine ⟨⟨by rw [List.length_take]; omega, fun h0 => ?_⟩, by omega, fun h => (by cases h)⟩
    have hx0 := hc 0 (by omega)
    have e0 : x.add 0 = x := rfl
    rw [e0] at hx0
    obtain ⟨b, o, s⟩ := x
    obtain rfl : s = none := World.cell?_spot hx0
    refine ⟨b, o, rfl, World.block_lt_of_cell? w _ hx0, fun i hi => ?_⟩
    have hci := hc i (by omega)
    rw [Addr.add_lit] at hci
    rw [hci, List.getElem?_take_of_lt hi]
    simp [List.getD]

end Go.Proofs.Ytpppnagodlpnjaa
