/- What the laws of chapter 3 do with readers and tables beside one another; readers of more bytes. -/
import Derived.Test.YtdbgcbbfnjoebaaRcI
namespace Go.Proofs.Ytdbgcbbfnjoebaa
open Go.RowKit

theorem RowAt.but {w w' : World} {a : Option Addr} {n : Nat} {zs : List Int} (h : RowAt w a n zs) {p : Nat} (hb : But p w w') (hp : ∀ b off, a = some ⟨b, off, none⟩ → 0 < n → b ≠ p) : RowAt w' a n zs := by
  refine ⟨h.1, fun h0 => ?_⟩
  obtain ⟨b, off, ha, hlt, hc⟩ := h.2 h0
  exact ⟨b, off, ha, by rw [hb.size]; exact hlt, fun i hi => (hb.cell (a := ⟨b, off + i, none⟩) (hp b off ha h0)).trans (hc i hi)⟩

theorem RowAt.drew {w : World} {xo : Option Addr} {n : Nat} {zs : List Int} (h : RowAt w xo n zs) : RowAt w.drew xo n zs := h

theorem takeS_front (b : List Nat) (s : St) (fl fh ft : Nat) : s.front ≤ (takeS b s fl fh ft).front := onS_front b 3 (narrowS s fl fh ft)

theorem symS_front (b : List Nat) (t : List Int) (s : St) : s.front ≤ (symS b t s).2.front := by
  unfold symS
  split
  · exact takeS_front b s _ _ _
  · exact Nat.le_refl _

theorem symS_cnt (b : List Nat) (t : List Int) (s : St) : (symS b t s).2.cnt ≤ s.cnt + 24 := by
  unfold symS
  split
  · exact takeS_cnt b s _ _ _
  · exact Nat.le_add_right _ _

theorem flagS_cnt (b : List Nat) (n : Int) {s : St} (hi : Inv s) : (flagS b n s).2.cnt ≤ s.cnt + 24 := by
  unfold flagS
  split
  · rename_i hn
    obtain ⟨_, _, hc, _⟩ := flag_pre hi (n := n.toNat) (by omega) (by omega)
    have := onS_cnt3 b (flagPre n.toNat s).2
    show (onS b 3 (flagPre n.toNat s).2).cnt ≤ _
    omega
  · exact Nat.le_add_right _ _

theorem bitsS_cnt (b : List Nat) (n : Int) (s : St) : (bitsS b n s).2.cnt ≤ s.cnt + 24 := by
  unfold bitsS
  split
  · rename_i h
    show s.cnt + n.toNat ≤ _
    omega
  · exact Nat.le_add_right _ _

theorem uintS_cnt (b : List Nat) (n : Int) (s : St) : (uintS b n s).2.cnt ≤ s.cnt + 48 := by
  unfold uintS
  split
  · exact Nat.le_add_right _ _
  · split
    · have := takeS_cnt b s (chooseS s n.toNat) (chooseS s n.toNat + 1) n.toNat
      show (takeS b s _ _ _).cnt ≤ _
      omega
    · rw [uintBig_eq]
      have h1 := takeS_cnt b s (chooseS s (partN n.toNat)) (chooseS s (partN n.toNat) + 1) (partN n.toNat)
      generalize takeS b s (chooseS s (partN n.toNat)) (chooseS s (partN n.toNat) + 1) (partN n.toNat) = S1 at *
      have h2 := bitsS_cnt b (shiftN n.toNat : Nat) S1
      split
      · show (bitsS b (shiftN n.toNat : Nat) S1).2.cnt ≤ _
        omega
      · show (bitsS b (shiftN n.toNat : Nat) S1).2.cnt ≤ _
        omega

theorem lapS_cnt (b : List Nat) (fs decay : Int) (s : St) : (lapS b fs decay s).2.cnt ≤ s.cnt + 24 := by
  unfold lapS
  split
  · exact takeS_cnt b s _ _ _
  · exact Nat.le_add_right _ _

theorem bytes_append {b c : List Nat} (hb : Bytes b) (hc : Bytes c) : Bytes (b ++ c) := fun i => by
  unfold byteAt
  rcases Nat.lt_or_ge i b.length with h | h
  · rw [List.getElem?_append_left h]; exact hb i
  · rw [List.getElem?_append_right h]; exact hc _

/-- What a reader of bs and one of bs ++ cs have in common: as long as the first one has bytes. -/
structure Side (bs : List Nat) (s t : St) : Prop where
  one : Inv s
  two : Inv t
  tell : tellZ s = tellZ t
  same : s.front ≤ bs.length → t = s

theorem Side.start {bs cs : List Nat} (hb : Bytes bs) (hc : Bytes cs) : Side bs (initS bs) (initS (bs ++ cs)) := by
  refine ⟨initS_inv hb, initS_inv (bytes_append hb hc), by rw [initS_tell, initS_tell], fun h => ?_⟩
  have h4 := (initS_is bs).2.1
  exact initS_eq (N := bs.length) (fun i hi => (byteAt_append bs cs i hi).symm) (by omega) h

theorem Side.sym {bs cs : List Nat} (hb : Bytes bs) {s t : St} (h : Side bs s t) (z : List Int) (ht : tellZ (symS bs z s).2 ≤ 8 * (bs.length : Int) - 32) : t = s ∧ symS (bs ++ cs) z s = symS bs z s ∧ Side bs (symS bs z s).2 (symS bs z s).2 := by
  obtain ⟨i1, i2, _⟩ := symS_inv hb h.one z
  have hf := i1.front_le ht
  have hm := symS_front bs z s
  have he := h.same (by omega)
  have hq := symS_eq (c := bs ++ cs) (N := bs.length) (fun i hi => (byteAt_append bs cs i hi).symm) (s := s) (t := z) hf
  exact ⟨he, hq, i1, i1, rfl, fun _ => rfl⟩

/-! ### Bytes that are written over -/
structure ArgInB (w : World) (g : Nat) (a : Option Addr) (n cap : Nat) (bs : List Nat) : Prop where
  bytes : BytesIn w g a n bs
  nil : a = none → n = 0 ∧ cap = 0

theorem ArgIn.keep {w w' : World} {g : Nat} {a : Option Addr} {n cap : Nat} {bs : List Nat} (h : ArgIn w g a n cap bs) (hb : Below w.heap.size w w') : ArgIn w' g a n cap bs :=
  ⟨h.bytes.of_block (fun h0 => hb.block g (h.bytes.lt h0)), h.nil, h.size⟩

/-- A row of bytes that may be written to: it lies in the block g. -/
def OwnB (w : World) (a : Option Addr) (n g : Nat) : Prop := 0 < n → ∃ N f, a = some ⟨g, 0, none⟩ ∧ n ≤ N ∧ w.rowIs g 5 N f ∧ ∀ j, j < n → ∃ x : Int, f j = .int .u8 x

theorem OwnB.of_block {w w' : World} {a : Option Addr} {n g : Nat} (h : OwnB w a n g) (e : 0 < n → w'.heap[g]? = w.heap[g]?) : OwnB w' a n g := fun h0 => by
  obtain ⟨N, f, ha, hn, hr, hx⟩ := h h0
  exact ⟨N, f, ha, hn, hr.of_block (e h0), hx⟩

theorem own_bytes {B : Nat} {w : World} {v : Value} {n : Nat} {bs : List Nat} (hb : Bytes bs) (h : w.ownsRow B 5 1 v n (bvals bs)) :
    ∃ a g cap, v = .slice a n cap ∧ ArgInB w g a n cap bs ∧ (0 < n → B ≤ g ∧ g < w.heap.size) ∧ OwnB w a n g := by
  obtain ⟨hl, h⟩ := h
  have hl' : bs.length = n := by simpa [bvals] using hl
  rcases h with ⟨rfl, rfl⟩ | ⟨g, cap, cur, rfl, hg, hh, hnc, hcm, hcs, ht⟩
  · exact ⟨none, 0, 0, rfl, ⟨⟨hl', hb, fun h0 => absurd h0 (by decide)⟩, fun _ => ⟨rfl, rfl⟩⟩, fun h0 => absurd h0 (by decide), fun h0 => absurd h0 (by decide)⟩
  · have hcc : ∀ i, i < n → cur[i]? = some (.int .u8 (byteAt bs i)) := fun i hi => by
      have h1 : (cur.toList.take (n * 1))[i]? = some (.int .u8 (byteAt bs i)) := by
        rw [ht, bvals, List.getElem?_map, byteAt, List.getElem?_eq_getElem (by omega)]; rfl
      rw [Nat.mul_one, List.getElem?_take_of_lt hi] at h1
      simpa using h1
    have hc : ∀ i, i < n → w.cell? ⟨g, i, none⟩ = some (.int .u8 (byteAt bs i)) := fun i hi => by
      simp [World.cell?, hh, hcc i hi]
    refine ⟨_, g, cap, rfl, ⟨⟨hl', hb, fun _ => ⟨0, rfl, fun i hi => by rw [Nat.zero_add]; exact hc i hi⟩⟩, fun h0 => (by cases h0)⟩, fun _ => ⟨hg, (Array.getElem?_eq_some_iff.1 hh).1⟩, fun _ => ?_⟩
    refine ⟨cur.size, fun i => cur.getD i undef, rfl, by omega, ⟨cur, hh, rfl, fun i hi => by simp [Array.getD, hi]⟩, fun j hj => ⟨byteAt bs j, ?_⟩⟩
    have := hcc j hj
    have hlt := (Array.getElem?_eq_some_iff.1 this).1
    simp [Array.getD, hlt]
    rw [Array.getElem?_eq_getElem hlt] at this
    simpa using this

theorem Rr.drew {p g : Nat} {bs : List Nat} {s : St} {w : World} (h : Rr p g bs s w) : Rr p g bs s w.drew := h

theorem Rr.keep {p g : Nat} {bs : List Nat} {s : St} {w w' : World} (h : Rr p g bs s w) (hb : Below w.heap.size w w') : Rr p g bs s w' := by
  refine h.of_blocks (hb.block p h.lt) (fun h0 => hb.block g ?_)
  obtain ⟨ee, a, n, cap, back, wait, waiting, _, h2, _⟩ := h
  refine h2.lt ?_
  have := h2.1
  rcases Nat.eq_zero_or_pos n with e | e
  · exact absurd (List.eq_nil_of_length_eq_zero (by omega)) h0
  · exact e

/-- 'append([]int{}, l...)', a copy, as one step of a region that draws. -/
theorem step_append_copy {ops : Array Oper} {o : Oper} {a : Act} {w : World} {K : Act → World → Prop} {Q : Exit → Act → World → Prop} {E : Prop}
    (hg : o.guard = none) (s x : Operand) (hop : o.op = Op.call { callee := Callee.builtin Builtin.append, args := #[s, x], argTypes := #[64, 64] })
    (xo : Option Addr) (n cap : Nat) (zs : List Int) (hr : RowAt w xo n zs) (hcap : xo = none → cap = 0) (hn : n * 8 ≤ 140737488355328)
    (hs : a.eval s = .slice (some ⟨w.heap.size, 0, none⟩) 0 0) (hx : a.eval x = .slice xo n cap)
    (hK : ∀ r c w', RowAt w' r n zs → Below w.heap.size w w' → K (a.put o.dst (.slice r n c)) w') :
    if Region.wanted o (yielded ops a.tmps) = true then Oper.wp Try.prog o a (w.alloc (.cells #[] 3)) K Q else E := by
  have hw : Region.wanted o (yielded ops a.tmps) = true := by simp [Region.wanted, hg]
  rw [if_pos hw]
  have hall : ∃ r c w', (Builtin.append_ #[64, 64] o.type #[.slice (some ⟨w.heap.size, 0, none⟩) 0 0, .slice xo n cap]).run Try.prog (w.alloc (.cells #[] 3)) = .ok (.slice r n c) w' ∧
      NewRow 3 w.heap.size w' r zs ∧ Below w.heap.size w w' := by
    cases xo with
    | none =>
      have h0 : n = 0 := by
        rcases Nat.eq_zero_or_pos n with h0 | h0
        · exact h0
        · obtain ⟨_, _, hx', _⟩ := hr.2 h0; cases hx'
      subst h0
      exact ⟨_, _, _, append_copy_nil Try.underlying64 info_int o.type w cap, .inl (List.eq_nil_of_length_eq_zero hr.1), (Below.refl _ _).alloc (Nat.le_refl _) _⟩
    | some y =>
      refine append_copy Try.underlying64 info_int o.type w y n cap zs hr.1 hn (fun i hi => ?_)
      obtain ⟨b, off, hy, _, hc⟩ := hr.2 (by omega)
      cases hy
      rw [Addr.add_lit]
      exact hc i hi
  obtain ⟨r, c, w', hrun, hnew, hb⟩ := hall
  unfold Oper.wp
  simp [execOp, hop, resolve, invoke, builtin, hs, hx, hrun, Result.andThen]
  refine hK r c w' ?_ hb
  have := RowAt.of_new hnew
  rw [hr.1] at this
  exact this

end Go.Proofs.Ytdbgcbbfnjoebaa
