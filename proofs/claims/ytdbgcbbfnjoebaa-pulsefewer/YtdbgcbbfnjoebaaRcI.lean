/- What was handed in: bytes; calls that are asked for. -/
import Derived.Test.YtdbgcbbfnjoebaaRcH
import Derived.OpenShut
namespace Go.Proofs.Ytdbgcbbfnjoebaa
open Go.RowKit

theorem addr_plain {w : World} {x : Addr} {v : Value} (h : w.cell? x = some v) : x = ⟨x.block, x.off, none⟩ := by
  obtain ⟨b, o, sp⟩ := x
  cases sp with
  | none => rfl
  | some k =>
    unfold World.cell? at h
    simp at h
    split at h <;> simp_all

/-- Bytes that were handed in. -/
theorem arg_of_row {w : World} {a : Option Addr} {len cap : Nat} {z : List Int} (h : IsRow .u8 w a len cap z) (hs : len ≤ 140737488351232) :
    ∃ g, ArgIn w g a len cap ((z.take len).map Int.toNat) ∧ (0 < len → g < w.heap.size) := by
  have hb : (∀ n ∈ z, (Lit.int .u8 n).wf = true) → Bytes ((z.take len).map Int.toNat) := fun hw i => by
    unfold byteAt
    rw [List.getElem?_map]
    cases he : (z.take len)[i]? with
    | none => show 0 < 256; decide
    | some n =>
      have hm : n ∈ z := List.mem_of_mem_take (List.mem_of_getElem? he)
      have := bounds_u8 (hw n hm)
      show n.toNat < 256
      omega
  rcases h with ⟨rfl, rfl, rfl, rfl⟩ | ⟨x, rfl, hl, hm, hz, hc, hw⟩
  · exact ⟨0, argIn_nil w, fun h => absurd h (by decide)⟩
  · rcases Nat.eq_zero_or_pos len with rfl | h0
    · exact ⟨0, ⟨⟨rfl, hb hw, fun h => absurd h (by decide)⟩, fun h => (by cases h), hs⟩, fun h => absurd h (by decide)⟩
    · obtain ⟨b, off, rfl, hcc⟩ := ints_at hc (by omega)
      refine ⟨b, ⟨⟨by simp; omega, hb hw, fun _ => ⟨off, rfl, fun i hi => ?_⟩⟩, fun h => (by cases h), hs⟩, fun _ => World.block_lt_of_cell? w _ (hcc 0 (by omega))⟩
      rw [hcc i (by omega)]
      have he : z[i]? = some (z[i]'(by omega)) := List.getElem?_eq_getElem (by omega)
      have hwf := bounds_u8 (hw _ (List.mem_of_getElem? he))
      have e2 : byteAt ((z.take len).map Int.toNat) i = (z[i]'(by omega)).toNat := by
        unfold byteAt
        rw [List.getElem?_map, List.getElem?_take_of_lt hi, he]; rfl
      rw [e2, List.getD, he, Int.toNat_of_nonneg hwf.1]
      rfl

theorem row_len {k : IntKind} {w : World} {a : Option Addr} {len cap : Nat} {z : List Int} (h : IsRow k w a len cap z) : len ≤ 9223372036854775807 := by
  rcases h with ⟨_, rfl, _, _⟩ | ⟨x, _, hl, hm, _⟩
  · decide
  · unfold maxLen at hm; omega

/-- One call that is asked for, in memory: three numbers, and a row. -/
structure ActCells (w : World) (b o : Nat) (v : ActV) : Prop where
  op : w.cell? ⟨b, o, none⟩ = some (.int .i64 (v.z 0))
  n : w.cell? ⟨b, o + 1, none⟩ = some (.int .i64 (v.z 1))
  m : w.cell? ⟨b, o + 2, none⟩ = some (.int .i64 (v.z 2))
  t : w.cell? ⟨b, o + 3, none⟩ = some (.slice v.a v.len v.cap)
  row : RowAt w v.a v.len (v.q.take v.len)
  bd : ∀ j, j < 3 → -9223372036854775808 ≤ v.z j ∧ v.z j ≤ 9223372036854775807
  len : v.len ≤ 9223372036854775807
  none : v.a = none → v.len = 0 ∧ v.cap = 0
  le : v.len ≤ v.cap

theorem row_at {w : World} {a : Option Addr} {len cap : Nat} {z : List Int} (h : IsRow .i64 w a len cap z) : RowAt w a len (z.take len) ∧ len ≤ 9223372036854775807 ∧ (a = none → len = 0 ∧ cap = 0) ∧ len ≤ cap := by
  rcases h with ⟨rfl, rfl, rfl, rfl⟩ | ⟨x, rfl, hl, hm, hz, hc, hw⟩
  · exact ⟨⟨rfl, fun h => absurd h (by decide)⟩, by decide, fun _ => ⟨rfl, rfl⟩, Nat.le_refl _⟩
  · unfold maxLen at hm
    refine ⟨⟨by rw [List.length_take]; omega, fun h0 => ?_⟩, by omega, fun h => (by cases h), hl⟩
    obtain ⟨b, off, rfl, hcc⟩ := ints_at hc (by omega)
    exact ⟨b, off, rfl, World.block_lt_of_cell? w _ (hcc 0 (by omega)), fun i hi => by rw [hcc i (by omega), List.getElem?_take_of_lt hi, List.getD]⟩

theorem acts_at {w : World} {a : Option Addr} {len cap : Nat} {vs : Nat → ActV} (h : ActsAt 3 w a len cap vs) :
    len ≤ 9223372036854775807 ∧ (0 < len → ∃ b off, a = some ⟨b, off, none⟩ ∧ b < w.heap.size ∧ ∀ i, i < len → ActCells w b (off + i * 4) (vs i)) := by
  rcases h with ⟨rfl, rfl, rfl⟩ | ⟨x, rfl, hl, hm, hc⟩
  · exact ⟨by decide, fun h => absurd h (by decide)⟩
  · unfold maxLen at hm
    refine ⟨by omega, fun h0 => ?_⟩
    obtain ⟨h1, _, _⟩ := hc 0 (by omega)
    have h2 := (h1 0 (by decide)).1
    rw [Nat.zero_mul] at h2
    have hp := addr_plain h2
    have hx : (x.add 0).add 0 = x := rfl
    rw [hx] at hp h2
    refine ⟨x.block, x.off, by rw [← hp], World.block_lt_of_cell? w _ h2, fun i hi => ?_⟩
    obtain ⟨g1, g2, g3⟩ := hc i (by omega)
    rw [hp, Addr.add_lit] at g1 g2
    obtain ⟨r1, r2, r3, r4⟩ := row_at g3
    exact ⟨by have := (g1 0 (by decide)).1; rw [Addr.add_lit] at this; exact this, by have := (g1 1 (by decide)).1; rw [Addr.add_lit] at this; exact this, by have := (g1 2 (by decide)).1; rw [Addr.add_lit] at this; exact this,
      by rw [Addr.add_lit] at g2; exact g2, r1, fun j hj => bounds_i64 (g1 j hj).2, r2, r3, r4⟩

theorem ActCells.keep {w w' : World} {b o : Nat} {v : ActV} (h : ActCells w b o v) {B : Nat} (hb : Below B w w') (hB : w.heap.size ≤ B) : ActCells w' b o v := by
  have hc : ∀ {x : Addr} {u : Value}, w.cell? x = some u → w'.cell? x = some u := fun {x u} hx => (hb.cell (p := x) (Nat.lt_of_lt_of_le (World.block_lt_of_cell? w _ hx) hB)).trans hx
  exact ⟨hc h.op, hc h.n, hc h.m, hc h.t, h.row.keep hb hB, h.bd, h.len, h.none, h.le⟩

end Go.Proofs.Ytdbgcbbfnjoebaa
