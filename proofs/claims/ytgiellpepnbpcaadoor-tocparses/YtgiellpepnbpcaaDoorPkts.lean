/- Arguments read off a row's own condition: a slice of rows of bytes; a struct of two numbers, a slice of rows of bytes and a number. Frames in memory. -/
import Derived.Test.YtgiellpepnbpcaaDoorActs
import Derived.Lib.SmallJoins
namespace Go.Proofs.YtgiellpepnbpcaaDoor
open Go.RowKit Go.ChangeShapes Go.WideShapes Go.Deep Go.Joins

theorem addr_flat {w : World} {x : Addr} {v : Value} (h : w.cell? x = some v) : x = ⟨x.block, x.off, none⟩ := by
  obtain ⟨b, o, s⟩ := x
  have : s = none := World.cell?_spot h
  subst this
  rfl

/-- One row of bytes among the arguments. -/
structure FrV where
  a : Option Addr
  len : Nat
  cap : Nat
  q : List Int

def RowsAt (w : World) (a : Option Addr) (len cap : Nat) (vs : Nat → FrV) : Prop :=
  (a = none ∧ len = 0 ∧ cap = 0) ∨ ∃ x, a = some x ∧ len ≤ cap ∧ cap ≤ maxLen ∧ ∀ i, i < cap → w.cell? (x.add i) = some (.slice (vs i).a (vs i).len (vs i).cap) ∧ IsRow .u8 w (vs i).a (vs i).len (vs i).cap (vs i).q

section
variable {H : Type} {enc : TypeId × Value → H} {P : Program} {w : World} {base : Nat} {held : Bool}

theorem rows_of {t e z : TypeId} {fuel : Nat} {a : Option Addr} {len cap : Nat} {y : DataW H × List MemPlace} (ht : P.underlying t = some (.slice e)) (he : P.underlying e = some (.slice z)) (hz : P.underlying z = some (.int .u8)) (hcz : P.cellsOf z = 1) (hce : P.cellsOf e = 1)
    (h : DataW.trod enc P w base (fun _ => true) held fuel t [.slice a len cap] = some y) : ∃ vs, RowsAt w a len cap vs := by
  rcases Deep.open_slice ht h with ⟨hcs, _⟩ | ⟨x, l, c, m, n, D, Pl, hcs, _, hl, hm, hmm, _, hx⟩
  · cases hcs
    exact ⟨fun _ => ⟨none, 0, 0, []⟩, .inl ⟨rfl, rfl, rfl⟩⟩
  · cases hcs
    simp only [if_true] at hmm
    subst hmm
    have hall : ∀ i, i < m → ∃ v : FrV, w.cell? (x.add i) = some (.slice v.a v.len v.cap) ∧ IsRow .u8 w v.a v.len v.cap v.q := fun i hi => by
      obtain ⟨cs', h1, h2⟩ := hx i hi
      rw [hce, Nat.mul_one] at h1
      obtain ⟨_, hlen, hcell⟩ := World.cells?_some h1
      obtain ⟨u, rfl⟩ : ∃ u, cs' = [u] := List.length_eq_one_iff.1 hlen
      obtain ⟨a', len', cap', q, rfl, hr⟩ := row_of he hz hcz h2
      have hc0 := hcell 0 (by decide)
      have e0 : (x.add i).add 0 = x.add i := rfl
      rw [e0] at hc0
      exact ⟨⟨a', len', cap', q⟩, by rw [hc0]; rfl, hr⟩
    obtain ⟨vs, hvs⟩ := pick_lt (⟨.none, 0, 0, []⟩ : FrV) m hall
    exact ⟨vs, .inr ⟨x, rfl, hl, hm, hvs⟩⟩

/-- A struct of three numbers that was handed in. -/
theorem cfg_of {t : TypeId} {f0 f1 f2 : Field} {r : Reach} {b0 : Nat} {v : Value} {d : DataW H} {p : List MemPlace} (hs : P.underlying t = some (.struct #[f0, f1, f2])) (hone : oneCellFields P #[f0, f1, f2] = true) (hC : P.cellsOf t = 3)
    (h0 : P.underlying f0.type = some (.int .i64)) (h1 : P.underlying f1.type = some (.int .i64)) (h2 : P.underlying f2.type = some (.int .i64)) (hv : Value.okWide P w r b0 t v) (h : DataW.Trod enc P w base (fun _ => true) held t v d p) :
    ∃ x y z : Int, v = .agg #[.int .i64 x, .int .i64 y, .int .i64 z] ∧ (Lit.int .i64 x).wf = true ∧ (Lit.int .i64 y).wf = true ∧ (Lit.int .i64 z).wf = true := by
  obtain ⟨v0, v1, v2, y0, y1, y2, n, rfl, _, _, t0, t1, t2⟩ := open_agg3 hs hone hC hv h
  obtain ⟨x, hx, _, wx⟩ := DataW.trod_int h0 t0
  obtain ⟨y, hy, _, wy⟩ := DataW.trod_int h1 t1
  obtain ⟨z, hz, _, wz⟩ := DataW.trod_int h2 t2
  cases hx; cases hy; cases hz
  exact ⟨x, y, z, rfl, wx, wy, wz⟩

/-- The packet that was handed in. -/
theorem pkt_of {t : TypeId} {f0 f1 f2 f3 : Field} {e z : TypeId} {r : Reach} {b0 : Nat} {v : Value} {d : DataW H} {p : List MemPlace} (hs : P.underlying t = some (.struct #[f0, f1, f2, f3])) (hone : oneCellFields P #[f0, f1, f2, f3] = true) (hC : P.cellsOf t = 4)
    (h0 : P.underlying f0.type = some (.int .i64)) (h1 : P.underlying f1.type = some (.int .i64)) (h2 : P.underlying f2.type = some (.slice e)) (h3 : P.underlying f3.type = some (.int .i64)) (he : P.underlying e = some (.slice z)) (hz : P.underlying z = some (.int .u8)) (hcz : P.cellsOf z = 1) (hce : P.cellsOf e = 1)
    (hv : Value.okWide P w r b0 t v) (h : DataW.Trod enc P w base (fun _ => true) held t v d p) :
    ∃ (c ch pad : Int) (a : Option Addr) (len cap : Nat) (vs : Nat → FrV), v = .agg #[.int .i64 c, .int .i64 ch, .slice a len cap, .int .i64 pad] ∧ (Lit.int .i64 c).wf = true ∧ (Lit.int .i64 ch).wf = true ∧ (Lit.int .i64 pad).wf = true ∧ RowsAt w a len cap vs := by
  obtain ⟨v0, v1, v2, v3, y0, y1, y2, y3, n, rfl, _, _, t0, t1, t2, t3⟩ := open_agg4 hs hone hC hv h
  obtain ⟨c, hc, _, wc⟩ := DataW.trod_int h0 t0
  obtain ⟨ch, hch, _, wch⟩ := DataW.trod_int h1 t1
  obtain ⟨pad, hp, _, wp⟩ := DataW.trod_int h3 t3
  obtain ⟨a, len, cap, hsl⟩ := Joins.slice_form h2 t2
  cases hc; cases hch; cases hp; cases hsl
  obtain ⟨vs, hvs⟩ := rows_of h2 he hz hcz hce t2
  exact ⟨c, ch, pad, a, len, cap, vs, rfl, wc, wch, wp, hvs⟩
end

/-! ### Frames in memory -/
/-- The bytes bs lie at a, in a block from B on. -/
structure ByteRow (w : World) (B : Nat) (a : Option Addr) (bs : List Nat) : Prop where
  small : ∀ x ∈ bs, x < 256
  at_ : 0 < bs.length → ∃ b off, a = some ⟨b, off, none⟩ ∧ B ≤ b ∧ b < w.heap.size ∧ ∀ i, i < bs.length → w.cell? ⟨b, off + i, none⟩ = some (.int .u8 (bs[i]?.getD 0 : Nat))

/-- A slice at a holds the frames fs, all in blocks from B on. -/
structure FramesAt (w : World) (B : Nat) (a : Option Addr) (fs : List (List Nat)) : Prop where
  at_ : 0 < fs.length → ∃ b off, a = some ⟨b, off, none⟩ ∧ B ≤ b ∧ b < w.heap.size ∧ ∀ i, i < fs.length → ∃ fa fcap, w.cell? ⟨b, off + i, none⟩ = some (.slice fa (fs[i]?.getD []).length fcap) ∧ (fa = none → (fs[i]?.getD []).length = 0 ∧ fcap = 0) ∧ (fs[i]?.getD []).length ≤ fcap ∧ ByteRow w B fa (fs[i]?.getD [])

theorem ByteRow.keep {w w' : World} {B : Nat} {a : Option Addr} {bs : List Nat} (h : ByteRow w B a bs) (hb : Below w.heap.size w w') : ByteRow w' B a bs :=
  ⟨h.small, fun h0 => by
    obtain ⟨b, off, e, h1, h2, h3⟩ := h.at_ h0
    exact ⟨b, off, e, h1, Nat.lt_of_lt_of_le h2 hb.size, fun i hi => (hb.cell (p := ⟨b, off + i, none⟩) h2).trans (h3 i hi)⟩⟩

theorem FramesAt.keep {w w' : World} {B : Nat} {a : Option Addr} {fs : List (List Nat)} (h : FramesAt w B a fs) (hb : Below w.heap.size w w') : FramesAt w' B a fs :=
  ⟨fun h0 => by
    obtain ⟨b, off, e, h1, h2, h3⟩ := h.at_ h0
    refine ⟨b, off, e, h1, Nat.lt_of_lt_of_le h2 hb.size, fun i hi => ?_⟩
    obtain ⟨fa, fcap, g1, g2, g3, g4⟩ := h3 i hi
    exact ⟨fa, fcap, (hb.cell (p := ⟨b, off + i, none⟩) h2).trans g1, g2, g3, g4.keep hb⟩⟩

theorem ByteRow.mono {w : World} {B B' : Nat} {a : Option Addr} {bs : List Nat} (h : ByteRow w B a bs) (hB : B' ≤ B) : ByteRow w B' a bs :=
  ⟨h.small, fun h0 => by
    obtain ⟨b, off, e, h1, h2⟩ := h.at_ h0
    exact ⟨b, off, e, Nat.le_trans hB h1, h2⟩⟩

/-- A row of bytes that came in, as a list of numbers. -/
def natsOf (q : List Int) : List Nat := q.map Int.toNat

theorem byteRow_of {w : World} {a : Option Addr} {len cap : Nat} {q : List Int} (h : IsRow .u8 w a len cap q) : ByteRow w 0 a (natsOf (q.take len)) ∧ (natsOf (q.take len)).length = len ∧ (a = none → len = 0 ∧ cap = 0) ∧ len ≤ cap ∧ cap ≤ maxLen := by
  rcases h with ⟨rfl, rfl, rfl, rfl⟩ | ⟨x, rfl, hl, hm, hq, hc, hw⟩
  · exact ⟨⟨fun x hx => by simp [natsOf] at hx, fun h0 => by simp [natsOf] at h0⟩, rfl, fun _ => ⟨rfl, rfl⟩, Nat.le_refl _, by decide⟩
  · have hlen : (natsOf (q.take len)).length = len := by simp [natsOf]; omega
    have hr : ∀ n ∈ q, 0 ≤ n ∧ n ≤ 255 := fun n hn => by
      exact bounds_u8 (hw n hn)
    refine ⟨⟨fun y hy => ?_, fun h0 => ?_⟩, hlen, fun h => (by cases h), hl, hm⟩
    · obtain ⟨n, hn, rfl⟩ := List.mem_map.1 hy
      have := hr n (List.mem_of_mem_take hn)
      omega
    · rw [hlen] at h0
      have hx0 := hc 0 (by omega)
      have hp := addr_flat hx0
      have e0 : x.add 0 = x := rfl
      rw [e0] at hp hx0
      refine ⟨x.block, x.off, by rw [← hp], Nat.zero_le _, World.block_lt_of_cell? w _ hx0, fun i hi => ?_⟩
      rw [hlen] at hi
      have hci := hc i (by omega)
      rw [hp, Addr.add_lit] at hci
      rw [hci]
      have e1 : (natsOf (q.take len))[i]? = some (q.getD i 0).toNat := by
        unfold natsOf
        rw [List.getElem?_map, List.getElem?_take_of_lt hi, List.getElem?_eq_getElem (by omega)]
        simp [List.getD, List.getElem?_eq_getElem (show i < q.length by omega)]
      rw [e1]
      have h3 := hr (q.getD i 0) (by rw [List.getD_eq_getElem?_getD, List.getElem?_eq_getElem (show i < q.length by omega)]; exact List.getElem_mem _)
      show some (Value.int .u8 (q.getD i 0)) = some (Value.int .u8 ((q.getD i 0).toNat : Int))
      rw [Int.toNat_of_nonneg h3.1]

/-- The frames that came in. -/
def framesOf (len : Nat) (vs : Nat → FrV) : List (List Nat) := (List.range len).map fun i => natsOf ((vs i).q.take (vs i).len)

theorem frames_in {w : World} {a : Option Addr} {len cap : Nat} {vs : Nat → FrV} (h : RowsAt w a len cap vs) : FramesAt w 0 a (framesOf len vs) ∧ (framesOf len vs).length = len ∧ (a = none → len = 0 ∧ cap = 0) ∧ len ≤ cap ∧ cap ≤ maxLen := by
  have hlen : (framesOf len vs).length = len := by simp [framesOf]
  rcases h with ⟨rfl, rfl, rfl⟩ | ⟨x, rfl, hl, hm, hc⟩
  · exact ⟨⟨fun h0 => by rw [hlen] at h0; exact absurd h0 (by decide)⟩, rfl, fun _ => ⟨rfl, rfl⟩, Nat.le_refl _, by decide⟩
  · refine ⟨⟨fun h0 => ?_⟩, hlen, fun h => (by cases h), hl, hm⟩
    rw [hlen] at h0
    have hx0 := (hc 0 (by omega)).1
    have hp := addr_flat hx0
    have e0 : x.add 0 = x := rfl
    rw [e0] at hp hx0
    refine ⟨x.block, x.off, by rw [← hp], Nat.zero_le _, World.block_lt_of_cell? w _ hx0, fun i hi => ?_⟩
    rw [hlen] at hi
    obtain ⟨g1, g2⟩ := hc i (by omega)
    rw [hp, Addr.add_lit] at g1
    obtain ⟨r1, r2, r3, r4, _⟩ := byteRow_of g2
    have e1 : (framesOf len vs)[i]?.getD [] = natsOf ((vs i).q.take (vs i).len) := by
      unfold framesOf
      rw [List.getElem?_map, List.getElem?_range hi]
      rfl
    rw [e1, r2]
    exact ⟨(vs i).a, (vs i).cap, g1, r3, r4, r1⟩

end Go.Proofs.YtgiellpepnbpcaaDoor
