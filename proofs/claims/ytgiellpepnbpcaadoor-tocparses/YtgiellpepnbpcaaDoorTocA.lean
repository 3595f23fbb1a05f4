/- Bytes and frames in memory: what is read, what a call makes and grows; the listed table of configs. -/
import Derived.Test.YtgiellpepnbpcaaDoorMB
import Derived.Test.YtgiellpepnbpcaaDoorPktS
import Derived.Deep.AppendLies
import Derived.OwnWalk
import Derived.Deep.RegionHeld3
namespace Go.Proofs.YtgiellpepnbpcaaDoor
open Go.RowKit

theorem info_uint8 : (Tryd.prog.info? 5).map (fun i => (i.zero, i.size, i.bytes)) = some (some (.int .u8 0), 1, 1) := by kernel_rfl
theorem info_bytes : (Tryd.prog.info? 29).map (fun i => (i.zero, i.size, i.bytes)) = some (some (.slice none 0 0), 1, 24) := by kernel_rfl

theorem Below.drewN {B : Nat} {a w : World} (h : Below B a w) (n : Nat) : Below B a (w.drewN n) := ⟨h.os, h.tape, h.output, h.size, h.block⟩

/-! ### Bytes that are read -/
/-- The slice at a of n bytes holds bs. -/
structure Bs (w : World) (a : Option Addr) (n cap : Nat) (bs : List Nat) : Prop where
  row : ByteRow w 0 a bs
  len : bs.length = n
  nil : a = none → n = 0 ∧ cap = 0
  room : n ≤ cap
  size : n ≤ 140737488351232

theorem ByteRow.drewN {w : World} {B : Nat} {a : Option Addr} {bs : List Nat} (h : ByteRow w B a bs) (k : Nat) : ByteRow (w.drewN k) B a bs := ⟨h.small, h.at_⟩
theorem FramesAt.drewN {w : World} {B : Nat} {a : Option Addr} {fs : List (List Nat)} (h : FramesAt w B a fs) (k : Nat) : FramesAt (w.drewN k) B a fs :=
  ⟨fun h0 => by
    obtain ⟨b, off, e, h1, h2, h3⟩ := h.at_ h0
    refine ⟨b, off, e, h1, h2, fun i hi => ?_⟩
    obtain ⟨fa, fcap, g1, g2, g3, g4⟩ := h3 i hi
    exact ⟨fa, fcap, g1, g2, g3, g4.drewN k⟩⟩

section
variable {w w' : World} {a : Option Addr} {n cap : Nat} {bs : List Nat}
theorem Bs.keep (h : Bs w a n cap bs) (hb : Below w.heap.size w w') : Bs w' a n cap bs := ⟨h.row.keep hb, h.len, h.nil, h.room, h.size⟩
theorem Bs.drewN (h : Bs w a n cap bs) (k : Nat) : Bs (w.drewN k) a n cap bs := ⟨h.row.drewN k, h.len, h.nil, h.room, h.size⟩
theorem Bs.alloc (h : Bs w a n cap bs) (o : Obj) : Bs (w.alloc o) a n cap bs := h.keep ((Below.refl _ _).alloc (Nat.le_refl _) o)

/-- A byte of them. -/
theorem Bs.cell (h : Bs w a n cap bs) {i : Nat} (hi : i < n) : ∃ g o, a = some ⟨g, o, none⟩ ∧ g < w.heap.size ∧ ∀ j, j < n → w.cell? ⟨g, o + j, none⟩ = some (.int .u8 (bs[j]?.getD 0 : Nat)) := by
  obtain ⟨g, o, e, _, hg, hc⟩ := h.row.at_ (by rw [h.len]; omega)
  exact ⟨g, o, e, hg, fun j hj => hc j (by rw [h.len]; exact hj)⟩

theorem small_at (hb : ∀ x ∈ bs, x < 256) (i : Nat) : bs[i]?.getD 0 < 256 := by
  rcases Nat.lt_or_ge i bs.length with h | h
  · rw [List.getElem?_eq_getElem h]; exact hb _ (List.getElem_mem _)
  · rw [List.getElem?_eq_none h]; decide

theorem ByteRow.part {w : World} {B g o : Nat} {bs : List Nat} (h : ByteRow w B (some ⟨g, o, none⟩) bs) (k m : Nat) : ByteRow w B (some ⟨g, o + k, none⟩) ((bs.drop k).take m) :=
  ⟨fun x hx => h.small x (List.mem_of_mem_drop (List.mem_of_mem_take hx)), fun h0 => by
    have hl : (bs.drop k).length = bs.length - k := List.length_drop ..
    have hlt : ((bs.drop k).take m).length ≤ bs.length - k := by rw [List.length_take, hl]; omega
    obtain ⟨b, off, e, h1, h2, h3⟩ := h.at_ (by omega)
    cases e
    refine ⟨g, o + k, rfl, h1, h2, fun i hi => ?_⟩
    have hm : i < m := by have := List.length_take_le m (bs.drop k); omega
    rw [Nat.add_assoc, h3 (k + i) (by omega), List.getElem?_take_of_lt hm, List.getElem?_drop]⟩

/-- Part of them: what 'b[lo:hi]' answers. -/
theorem Bs.part (h : Bs w a n cap bs) (lo hi : Nat) (h1 : lo ≤ hi) (h2 : hi ≤ n) : Bs w (if cap = lo then a else a.map (·.add (lo * 1))) (hi - lo) (cap - lo) ((bs.drop lo).take (hi - lo)) := by
  have hl := h.len
  have hr := h.room
  have hsz := h.size
  have hlen : ((bs.drop lo).take (hi - lo)).length = hi - lo := by rw [List.length_take, List.length_drop]; omega
  refine ⟨?_, hlen, ?_, by omega, by omega⟩
  · by_cases h0 : n = 0
    · have : (bs.drop lo).take (hi - lo) = [] := List.eq_nil_of_length_eq_zero (by omega)
      rw [this]
      exact ⟨fun x hx => (by cases hx), fun h0 => absurd h0 (by decide)⟩
    · obtain ⟨g, o, rfl, hg, hc⟩ := h.cell (i := 0) (by omega)
      split
      · have : (bs.drop lo).take (hi - lo) = [] := List.eq_nil_of_length_eq_zero (by omega)
        rw [this]
        exact ⟨fun x hx => (by cases hx), fun h0 => absurd h0 (by decide)⟩
      · show ByteRow w 0 (some ((⟨g, o, none⟩ : Addr).add (lo * 1))) _
        rw [Addr.add_lit, Nat.mul_one]
        exact h.row.part lo (hi - lo)
  · intro hn
    have hna : a = none := by
      by_cases hc : cap = lo
      · rw [if_pos hc] at hn; exact hn
      · rw [if_neg hc] at hn
        cases a with
        | none => rfl
        | some x => cases hn
    have := h.nil hna
    omega

theorem size_bytes (W : World) : (sizeOf (Tryd.prog.elem 29)).run Tryd.prog W = .ok 1 W := by kernel_rfl
theorem elem_bytes : Tryd.prog.underlying 29 = some (.slice (Tryd.prog.elem 29)) := by kernel_rfl

/-- Whatever holds the bytes bs at the one slice holds r at the other, in every world. -/
def Sub (a : Option Addr) (n cap : Nat) (bs : List Nat) (a' : Option Addr) (n' cap' : Nat) (r : List Nat) : Prop := ∀ W : World, Bs W a n cap bs → Bs W a' n' cap' r

theorem Sub.refl (a : Option Addr) (n cap : Nat) (bs : List Nat) : Sub a n cap bs a n cap bs := fun _ h => h
theorem Sub.trans {a : Option Addr} {n cap : Nat} {bs : List Nat} {a1 : Option Addr} {n1 cap1 : Nat} {r1 : List Nat} {a2 : Option Addr} {n2 cap2 : Nat} {r2 : List Nat} (h : Sub a n cap bs a1 n1 cap1 r1) (k : Sub a1 n1 cap1 r1 a2 n2 cap2 r2) : Sub a n cap bs a2 n2 cap2 r2 := fun W hW => k W (h W hW)

/-- 'b[lo:]'. -/
theorem Bs.from_ (h : Bs w a n cap bs) (lo : Nat) (z : Int) (hz : z = (lo : Nat)) (h1 : lo ≤ n) : ∃ a' n' c', n' = n - lo ∧ Sub a n cap bs a' n' c' (bs.drop lo) ∧ (∀ W, (Instr.slice 29 (.slice a n cap) (some (.int .i64 z)) none none).run Tryd.prog W = .ok (.slice a' n' c') W) ∧
    ∀ W, (Instr.sliceAt 29 (.slice a n cap) (some (.int .i64 z)) none none).run Tryd.prog W = .ok (.slice a' n' c') W := by
  subst hz
  have e : (bs.drop lo).take (n - lo) = bs.drop lo := List.take_of_length_le (by rw [List.length_drop, h.len]; exact Nat.le_refl _)
  have hp : Sub a n cap bs (if cap = lo then a else a.map (·.add (lo * 1))) (n - lo) (cap - lo) (bs.drop lo) := fun W hW => by
    have := hW.part lo n h1 (Nat.le_refl _)
    rw [e] at this
    exact this
  have hr : ∀ W, (Instr.slice 29 (.slice a n cap) (some (.int .i64 (lo : Nat))) none none).run Tryd.prog W = .ok (.slice (if cap = lo then a else a.map (·.add (lo * 1))) (n - lo) (cap - lo)) W := fun W => by
    rw [run_slice_l (P := Tryd.prog) (w := W) 29 a n cap elem_bytes .i64 lo (by omega) (by omega), size_bytes]
    rfl
  refine ⟨_, _, _, rfl, hp, hr, fun W => ?_⟩
  rw [run_sliceAt_slice (P := Tryd.prog) (w := W) (h := elem_bytes)]
  exact hr W

/-- 'b[:hi]'. -/
theorem Bs.upto (h : Bs w a n cap bs) (hi : Nat) (z : Int) (hz : z = (hi : Nat)) (h1 : hi ≤ n) : ∃ a' n' c', n' = hi ∧ Sub a n cap bs a' n' c' (bs.take hi) ∧ (∀ W, (Instr.slice 29 (.slice a n cap) none (some (.int .i64 z)) none).run Tryd.prog W = .ok (.slice a' n' c') W) ∧
    ∀ W, (Instr.sliceAt 29 (.slice a n cap) none (some (.int .i64 z)) none).run Tryd.prog W = .ok (.slice a' n' c') W := by
  subst hz
  have hp : Sub a n cap bs (if cap = 0 then a else a.map (·.add (0 * 1))) hi cap (bs.take hi) := fun W hW => by
    have := hW.part 0 hi (by omega) h1
    rw [List.drop_zero, Nat.sub_zero, Nat.sub_zero] at this
    exact this
  have hro := h.room
  have hr : ∀ W, (Instr.slice 29 (.slice a n cap) none (some (.int .i64 (hi : Nat))) none).run Tryd.prog W = .ok (.slice (if cap = 0 then a else a.map (·.add (0 * 1))) hi cap) W := fun W => by
    rw [run_slice_h (P := Tryd.prog) (w := W) 29 a n cap elem_bytes .i64 hi (by omega) (by omega), size_bytes]
    rfl
  refine ⟨_, _, _, rfl, hp, hr, fun W => ?_⟩
  rw [run_sliceAt_slice (P := Tryd.prog) (w := W) (h := elem_bytes)]
  exact hr W
end

/-! ### Bytes that a call makes -/
def bvals (bs : List Nat) : List Value := bs.map fun (x : Nat) => Value.int .u8 (x : Int)

/-- v is a slice of the call's own from block B on: it holds bs. -/
abbrev Ob (B : Nat) (w : World) (v : Value) (bs : List Nat) : Prop := w.ownsRow B 5 1 v bs.length (bvals bs)

theorem ownsRow_form {w : World} {B : Nat} {e : TypeId} {z : Nat} {v : Value} {n : Nat} {xs : List Value} (h : w.ownsRow B e z v n xs) : ∃ a cap, v = .slice a n cap := by
  rcases h.2 with ⟨rfl, rfl⟩ | ⟨g, cap, _, rfl, _⟩
  · exact ⟨none, 0, rfl⟩
  · exact ⟨_, _, rfl⟩

theorem ownsRow_of_block {w w' : World} {v : Value} {n : Nat} {xs : List Value} {B : Nat} {e : TypeId} {z : Nat} (h : w.ownsRow B e z v n xs) (hb : ∀ k, v.ownBlock = some k → w'.heap[k]? = w.heap[k]?) : w'.ownsRow B e z v n xs := by
  obtain ⟨hl, h⟩ := h
  refine ⟨hl, ?_⟩
  rcases h with h | ⟨g, cap, cur, rfl, hg, hh, hrest⟩
  · exact .inl h
  · exact .inr ⟨g, cap, cur, rfl, hg, (hb g rfl).trans hh, hrest⟩

theorem ownBlock_lt {w : World} {B : Nat} {e : TypeId} {z : Nat} {v : Value} {n : Nat} {xs : List Value} (h : w.ownsRow B e z v n xs) {k : Nat} (hk : v.ownBlock = some k) : k < w.heap.size := by
  obtain ⟨_, h1 | ⟨g, cap, cur, hv, _, hh, _⟩⟩ := h
  · rw [h1.1] at hk; cases hk
  · rw [hv] at hk
    cases hk
    exact (Array.getElem?_eq_some_iff.1 hh).1

theorem ownsRow_below {w w' : World} {B : Nat} {e : TypeId} {z : Nat} {v : Value} {n : Nat} {xs : List Value} (h : w.ownsRow B e z v n xs) (hb : Below w.heap.size w w') : w'.ownsRow B e z v n xs :=
  ownsRow_of_block h fun _ hk => hb.block _ (ownBlock_lt h hk)

theorem ownsRow_mono {w : World} {B B' : Nat} {e : TypeId} {z : Nat} {v : Value} {n : Nat} {xs : List Value} (h : w.ownsRow B e z v n xs) (hB : B' ≤ B) : w.ownsRow B' e z v n xs := by
  refine ⟨h.1, ?_⟩
  rcases h.2 with h | ⟨g, cap, cur, h1, h2, h3⟩
  · exact .inl h
  · exact .inr ⟨g, cap, cur, h1, Nat.le_trans hB h2, h3⟩

theorem Ob.bs {B : Nat} {w : World} {a : Option Addr} {n cap : Nat} {bs : List Nat} (h : w.ownsRow B 5 1 (.slice a n cap) n (bvals bs)) (hb : ∀ x ∈ bs, x < 256) (hn : n ≤ 140737488351232) : Bs w a n cap bs ∧ ByteRow w B a bs := by
  obtain ⟨hl, h⟩ := h
  have hl' : bs.length = n := by simpa [bvals] using hl
  rcases h with ⟨hv, rfl⟩ | ⟨g, cap', cur, hv, hg, hh, hnc, hcm, hcs, ht⟩
  · cases hv
    obtain rfl : bs = [] := List.eq_nil_of_length_eq_zero hl'
    exact ⟨⟨⟨hb, fun h0 => absurd h0 (by decide)⟩, rfl, fun _ => ⟨rfl, rfl⟩, Nat.le_refl _, by decide⟩, ⟨hb, fun h0 => absurd h0 (by decide)⟩⟩
  · cases hv
    have hc : ∀ i, i < n → w.cell? ⟨g, 0 + i, none⟩ = some (.int .u8 (bs[i]?.getD 0 : Nat)) := fun i hi => by
      have h1 : (cur.toList.take (n * 1))[i]? = some (.int .u8 (bs[i]?.getD 0 : Nat)) := by
        rw [ht, bvals, List.getElem?_map, List.getElem?_eq_getElem (by omega)]; rfl
      rw [Nat.mul_one, List.getElem?_take_of_lt hi] at h1
      have h2 : cur[i]? = some (.int .u8 (bs[i]?.getD 0 : Nat)) := by simpa using h1
      simp [World.cell?, hh, h2]
    have hlt := (Array.getElem?_eq_some_iff.1 hh).1
    exact ⟨⟨⟨hb, fun _ => ⟨g, 0, rfl, Nat.zero_le _, hlt, fun i hi => hc i (by omega)⟩⟩, hl', fun h0 => (by cases h0), hnc, hn⟩, ⟨hb, fun _ => ⟨g, 0, rfl, hg, hlt, fun i hi => hc i (by omega)⟩⟩⟩

theorem owned_empty (w : World) : (w.alloc (.cells #[] 5)).ownsRow w.heap.size 5 1 (.slice (some ⟨w.heap.size, 0, none⟩) 0 0) 0 (bvals []) :=
  have h : (w.alloc (.cells #[] 5)).ownsRow w.heap.size 5 1 (.slice (some ⟨w.heap.size, 0, none⟩) 0 0) 0 [] := World.ownsRow_made w #[] 0 (Nat.le_refl _) (by decide) rfl
  h

/-- What 'append' has to know of what it adds: cells, or nothing. -/
def News (w : World) (xo : Option Addr) (m cap : Nat) (cs : List Nat) : Prop :=
  cs.length = m ∧ ((xo = none ∧ m = 0 ∧ cap = 0) ∨ ∃ x, xo = some x ∧ ∀ i, i < m → w.cell? (x.add i) = some (.int .u8 (cs[i]?.getD 0 : Nat)))

theorem Bs.news {w : World} {a : Option Addr} {n cap : Nat} {bs : List Nat} (h : Bs w a n cap bs) : News w a n cap bs := by
  refine ⟨h.len, ?_⟩
  cases a with
  | none =>
    obtain ⟨rfl, rfl⟩ := h.nil rfl
    exact .inl ⟨rfl, rfl, rfl⟩
  | some x =>
    refine .inr ⟨x, rfl, fun i hi => ?_⟩
    obtain ⟨g, o, e, _, hc⟩ := h.cell hi
    cases e
    rw [Addr.add_lit]
    exact hc i hi

theorem append_bytes (ty : TypeId) (B : Nat) (w : World) (v : Value) (n : Nat) (bs : List Nat) (hown : w.ownsRow B 5 1 v n (bvals bs)) (xo : Option Addr) (m cap : Nat) (cs : List Nat) (hs : News w xo m cap cs) (hn : n + m ≤ 140737488355328) (hB : B ≤ w.heap.size) :
    ∃ a' c' w', (Builtin.append_ #[29, 29] ty #[v, .slice xo m cap]).run Tryd.prog w = .ok (.slice a' (n + m) c') w' ∧ w'.ownsRow B 5 1 (.slice a' (n + m) c') (n + m) (bvals (bs ++ cs)) ∧ w.grownBy w' v.ownBlock := by
  obtain ⟨i, hi, hzz⟩ := Option.map_eq_some_iff.1 info_uint8
  simp only [Prod.mk.injEq] at hzz
  obtain ⟨hz, hsz, hb⟩ := hzz
  obtain ⟨hl, ⟨rfl, rfl, rfl⟩ | ⟨x, rfl, hc⟩⟩ := hs
  · obtain rfl : cs = [] := List.eq_nil_of_length_eq_zero hl
    obtain ⟨a, c, rfl⟩ := ownsRow_form hown
    refine ⟨a, c, w, run_append_owned_none w B 29 ty 5 i 1 Tryd.underlying29 hi _ n _ hown, ?_, ⟨rfl, rfl, rfl, Nat.le_refl _, fun _ _ _ => rfl⟩⟩
    rw [List.append_nil]
    exact hown
  · obtain ⟨v', w', hr, ho, hg, _⟩ := run_append_own (P := Tryd.prog) w B 29 ty 5 i (.int .u8 0) 1 1 Tryd.underlying29 hi hz hsz hb rfl (by decide) v n _ hown x m cap (bvals cs) (by simp [bvals, hl])
      (by
        intro j u hj
        have hjn : j < cs.length := by
          rcases Nat.lt_or_ge j cs.length with h | h
          · exact h
          · rw [List.getElem?_eq_none (by simpa [bvals] using h)] at hj; cases hj
        have h1 := hc j (by omega)
        rw [bvals, List.getElem?_map, List.getElem?_eq_getElem hjn] at hj
        rw [List.getElem?_eq_getElem hjn] at h1
        simp only [Option.map_some, Option.some.injEq, Option.getD_some] at hj h1
        subst hj
        exact h1)
      (by intro u hu; obtain ⟨q, _, rfl⟩ := List.mem_map.1 hu; rfl) (by unfold maxLen; omega) (by omega) hB
    obtain ⟨a, c, rfl⟩ := ownsRow_form ho
    refine ⟨a, c, w', hr, ?_, hg⟩
    rw [bvals, List.map_append]
    exact ho

theorem wpList_append_bytes {ops : Array Oper} {rest : List Oper} {o : Oper} {a : Act} {w : World} {Q : Exit → Act → World → Prop} (B : Nat) (v : Value) (n : Nat) (bs : List Nat) (xo : Option Addr) (m cap : Nat) (cs : List Nat)
    (hown : w.ownsRow B 5 1 v n (bvals bs)) (hs : News w xo m cap cs) (hn : n + m ≤ 140737488355328) (hB : B ≤ w.heap.size)
    (hw : Region.wanted o (yielded ops a.tmps) = true) (s x : Operand)
    (ho : o.op = .call { callee := .builtin .append, args := #[s, x], argTypes := #[29, 29] })
    (hsv : a.eval s = v) (hxv : a.eval x = .slice xo m cap)
    (h : ∀ a' c' w', w'.ownsRow B 5 1 (.slice a' (n + m) c') (n + m) (bvals (bs ++ cs)) → w.grownBy w' v.ownBlock → wpList Tryd.prog ops Q rest (a.put o.dst (.slice a' (n + m) c')) w') :
    wpList Tryd.prog ops Q (o :: rest) a w := by
  obtain ⟨a', c', w', hr, ho', hb⟩ := append_bytes o.type B w v n bs hown xo m cap cs hs hn hB
  exact wpList_append_run hw s x _ _ ho _ _ hsv hxv _ _ hr (h a' c' w' ho' hb)

theorem grown_own {w w' : World} {row : Option Nat} {B : Nat} (hg : w.grownBy w' row) (hr : ∀ k, row = some k → B ≤ k) (hB : B ≤ w.heap.size) : Below B w w' := (Below.refl B w).grown hg hB hr

/-- 'append([]byte{}, x...)'. -/
theorem wpList_copy_bytes {ops : Array Oper} {rest : List Oper} {o : Oper} {a : Act} {w : World} {Q : Exit → Act → World → Prop} (xo : Option Addr) (m cap : Nat) (cs : List Nat) (hs : Bs w xo m cap cs)
    (hw : Region.wanted o (yielded ops a.tmps) = true) (s x : Operand)
    (ho : o.op = .call { callee := .builtin .append, args := #[s, x], argTypes := #[29, 29] })
    (H : Nat) (hH : w.heap.size = H) (hsv : a.eval s = .slice (some ⟨H, 0, none⟩) 0 0) (hxv : a.eval x = .slice xo m cap)
    (h : ∀ a' c' w', w'.ownsRow w.heap.size 5 1 (.slice a' m c') m (bvals cs) → Below w.heap.size w w' → wpList Tryd.prog ops Q rest (a.put o.dst (.slice a' m c')) w') :
    wpList Tryd.prog ops Q (o :: rest) a (w.alloc (.cells #[] 5)) := by
  subst hH
  refine wpList_append_bytes w.heap.size _ 0 [] xo m cap cs (owned_empty w) ((hs.alloc _).news) (by have := hs.size; omega) (by simp) hw s x ho hsv hxv ?_
  intro a' c' w' h1 h2
  rw [Nat.zero_add, List.nil_append] at *
  exact h a' c' w' h1 (((Below.refl _ _).alloc (Nat.le_refl _) _).trans (grown_own h2 (fun k hk => by simp [Value.ownBlock] at hk; omega) (by simp)))

/-! ### Frames that a call makes -/
/-- v is a slice of the call's own from block B on: it holds the frames fs, each the call's own, none in v's own block. -/
structure Frs (B : Nat) (w : World) (v : Value) (fs : List (List Nat)) : Prop where
  own : ∃ us : List Value, w.ownsRow B 29 1 v fs.length us ∧ ∀ (i : Nat) (f : List Nat), fs[i]? = some f → ∃ u : Value, us[i]? = some u ∧ Ob B w u f ∧ ∀ k, v.ownBlock = some k → u.ownBlock ≠ some k
  small : ∀ f ∈ fs, ∀ x ∈ f, x < 256
  short : ∀ f ∈ fs, f.length ≤ 140737488351232

theorem Frs.nil (B : Nat) (w : World) : Frs B w (.slice none 0 0) [] :=
  ⟨⟨[], World.ownsRow_nil w B _ 1, fun i f h => by simp at h⟩, fun f h => (by cases h), fun f h => (by cases h)⟩

theorem Frs.form {B : Nat} {w : World} {v : Value} {fs : List (List Nat)} (h : Frs B w v fs) : ∃ a cap, v = .slice a fs.length cap := by
  obtain ⟨us, h1, _⟩ := h.own
  exact ownsRow_form h1

theorem Frs.keep {B : Nat} {w w' : World} {v : Value} {fs : List (List Nat)} (h : Frs B w v fs) (hb : Below w.heap.size w w') : Frs B w' v fs := by
  obtain ⟨⟨us, h1, h2⟩, h3, h4⟩ := h
  refine ⟨⟨us, ownsRow_below h1 hb, fun (i : Nat) (f : List Nat) hf => ?_⟩, h3, h4⟩
  obtain ⟨u, g1, g2, g3⟩ := h2 i f hf
  exact ⟨u, g1, ownsRow_below g2 hb, g3⟩

theorem Frs.drewN {B : Nat} {w : World} {v : Value} {fs : List (List Nat)} (h : Frs B w v fs) (k : Nat) : Frs B (w.drewN k) v fs := by
  obtain ⟨⟨us, h1, h2⟩, h3, h4⟩ := h
  exact ⟨⟨us, ownsRow_of_block h1 fun _ _ => rfl, fun i f hf => by
    obtain ⟨u, g1, g2, g3⟩ := h2 i f hf
    exact ⟨u, g1, ownsRow_of_block g2 fun _ _ => rfl, g3⟩⟩, h3, h4⟩

theorem Frs.mono {B B' : Nat} {w : World} {v : Value} {fs : List (List Nat)} (h : Frs B w v fs) (hB : B' ≤ B) : Frs B' w v fs := by
  obtain ⟨⟨us, h1, h2⟩, h3, h4⟩ := h
  refine ⟨⟨us, ownsRow_mono h1 hB, fun i f hf => ?_⟩, h3, h4⟩
  obtain ⟨u, g1, g2, g3⟩ := h2 i f hf
  exact ⟨u, g1, ownsRow_mono g2 hB, g3⟩

/-- One frame more: u was made behind the list (in a block that is not the list's). -/
theorem Frs.push {B : Nat} {w w1 w' : World} {v u : Value} {fs : List (List Nat)} {f : List Nat} (h : Frs B w v fs) (hb : Below w.heap.size w w1) (hu : Ob B w1 u f) (hun : ∀ k, u.ownBlock = some k → w.heap.size ≤ k) (hsm : ∀ x ∈ f, x < 256) (hsh : f.length ≤ 140737488351232)
    {o : Obj} {us : List Value} (hus : w.ownsRow B 29 1 v fs.length us) {g n' cap : Nat} (hn : n' = fs.length + 1) (ho : w'.ownsRow B 29 1 (.slice (some ⟨g, 0, none⟩) n' cap) n' (us ++ [u])) (hg : (w1.alloc o).grownBy w' v.ownBlock) (hat : v.ownBlock = some g ∨ g = w1.heap.size + 1) :
    Frs B w' (.slice (some ⟨g, 0, none⟩) n' cap) (fs ++ [f]) := by
  subst hn
  have hlen : us.length = fs.length := by simpa using hus.1
  obtain ⟨⟨us', h1, h2⟩, h3, h4⟩ := h
  have husE : us' = us := by
    rcases h1.2 with ⟨rfl, hz⟩ | ⟨g1, c1, cur1, hv1, _, hh1, _, _, _, ht1⟩
    · have e1 := h1.1
      have e2 := hus.1
      rw [hz] at e1 e2
      exact (List.eq_nil_of_length_eq_zero (by simpa using e1)).trans (List.eq_nil_of_length_eq_zero (by simpa using e2)).symm
    · rcases hus.2 with ⟨hv2, _⟩ | ⟨g2, c2, cur2, hv2, _, hh2, _, _, _, ht2⟩
      · rw [hv1] at hv2; cases hv2
      · rw [hv1] at hv2
        cases hv2
        rw [hh1] at hh2
        cases hh2
        rw [← ht1, ← ht2]
  subst husE
  have hA : ∀ k, k < w.heap.size → v.ownBlock ≠ some k → w'.heap[k]? = w.heap[k]? := fun k hk hne => by
    have hs := hb.size
    rw [hg.block k (by simp; omega) (fun e => hne e.symm), Below.heap_alloc _ _ _ (by omega), hb.block k hk]
  refine ⟨⟨us' ++ [u], by rw [List.length_append]; exact ho, fun i f' hf' => ?_⟩, ?_, ?_⟩
  · rcases Nat.lt_trichotomy i fs.length with hi | hi | hi
    · rw [List.getElem?_append_left hi] at hf'
      obtain ⟨u', g1, g2, g3⟩ := h2 i f' hf'
      refine ⟨u', by rw [List.getElem?_append_left (by omega)]; exact g1, ownsRow_of_block g2 fun k hk => hA k (ownBlock_lt g2 hk) (fun e => g3 k e hk), fun k hk hk' => ?_⟩
      obtain rfl : g = k := by simpa [Value.ownBlock] using hk
      rcases hat with h5 | h5
      · exact g3 g h5 hk'
      · have := ownBlock_lt g2 hk'; have := hb.size; omega
    · subst hi
      rw [List.getElem?_append_right (Nat.le_refl _), Nat.sub_self] at hf'
      obtain rfl : f = f' := by simpa using hf'
      refine ⟨u, by rw [← hlen, List.getElem?_append_right (Nat.le_refl _), Nat.sub_self]; rfl, ownsRow_of_block hu fun k hk => ?_, fun k hk hk' => ?_⟩
      · have h5 := ownBlock_lt hu hk
        rw [hg.block k (by simp; omega) (fun e => by have := hun k hk; have := ownBlock_lt h1 e.symm; omega), Below.heap_alloc _ _ _ h5]
      · obtain rfl : g = k := by simpa [Value.ownBlock] using hk
        rcases hat with h5 | h5
        · have := hun g hk'; have := ownBlock_lt h1 h5; omega
        · have := ownBlock_lt hu hk'; omega
    · rw [List.getElem?_eq_none (by simp; omega)] at hf'; cases hf'
  · intro f' hf'
    rcases List.mem_append.1 hf' with h5 | h5
    · exact h3 f' h5
    · obtain rfl : f' = f := by simpa using h5
      exact hsm
  · intro f' hf'
    rcases List.mem_append.1 hf' with h5 | h5
    · exact h4 f' h5
    · obtain rfl : f' = f := by simpa using h5
      exact hsh

/-- The same, where the element is read. -/
theorem Frs.at_ {B : Nat} {w : World} {a : Option Addr} {n cap : Nat} {fs : List (List Nat)} (h : Frs B w (.slice a n cap) fs) : n = fs.length ∧ FramesAt w B a fs ∧ (a = none → n = 0 ∧ cap = 0) ∧ n ≤ cap := by
  obtain ⟨⟨us, h1, h2⟩, h3, h4⟩ := h
  have hlen : us.length = fs.length := by simpa using h1.1
  rcases h1.2 with ⟨hv, hz⟩ | ⟨g, c1, cur, hv, hB, hh, hnc, _, hcs, ht⟩
  · cases hv
    exact ⟨hz.symm, ⟨fun h0 => by omega⟩, fun _ => ⟨rfl, rfl⟩, Nat.le_refl _⟩
  · cases hv
    refine ⟨rfl, ⟨fun h0 => ⟨g, 0, rfl, hB, (Array.getElem?_eq_some_iff.1 hh).1, fun i hi => ?_⟩⟩, fun h0 => (by cases h0), hnc⟩
    obtain ⟨u, g1, g2, g3⟩ := h2 i (fs[i]'hi) (List.getElem?_eq_getElem hi)
    have e : fs[i]?.getD [] = fs[i]'hi := by rw [List.getElem?_eq_getElem hi]; rfl
    obtain ⟨ua, uc, rfl⟩ := ownsRow_form g2
    obtain ⟨b1, b2⟩ := Ob.bs g2 (h3 _ (List.getElem_mem _)) (h4 _ (List.getElem_mem _))
    rw [e]
    refine ⟨ua, uc, ?_, b1.nil, b1.room, b2⟩
    have h5 : (cur.toList.take (fs.length * 1))[i]? = some (.slice ua (fs[i]'hi).length uc) := by rw [ht]; exact g1
    rw [Nat.mul_one, List.getElem?_take_of_lt hi] at h5
    have h6 : cur[i]? = some (.slice ua (fs[i]'hi).length uc) := by simpa using h5
    simp [World.cell?, hh, h6]

/-- 'append(frames, f)'. -/
theorem wpList_push_frame {ops : Array Oper} {rest : List Oper} {o : Oper} {a : Act} {Q : Exit → Act → World → Prop} {w w1 : World} (B : Nat) (v : Value) (fs : List (List Nat)) (ua : Option Addr) (un uc : Nat) (f : List Nat) (h : Frs B w v fs) (hb : Below w.heap.size w w1)
    (hu : w1.ownsRow B 5 1 (.slice ua un uc) un (bvals f)) (hun : ∀ k, (Value.slice ua un uc).ownBlock = some k → w.heap.size ≤ k) (hsm : ∀ x ∈ f, x < 256) (hsh : un ≤ 140737488351232) (hm : fs.length ≤ 1000) (hB : B ≤ w1.heap.size)
    (hgd : o.guard = none) (s x : Operand) (ho : o.op = .call { callee := .builtin .append, args := #[s, x], argTypes := #[23, 23] }) (hs : a.eval s = v) (H : Nat) (hH : w1.heap.size = H) (hx : a.eval x = .slice (some ⟨H, 0, none⟩) 1 1)
    (hk : ∀ g cap w', Frs B w' (.slice (some ⟨g, 0, none⟩) (fs.length + 1) cap) (fs ++ [f]) → Below B w1 w' → wpList Tryd.prog ops Q rest (a.put o.dst (.slice (some ⟨g, 0, none⟩) (fs.length + 1) cap)) w') :
    wpList Tryd.prog ops Q (o :: rest) a (w1.alloc (.cells #[.slice ua un uc] 29)) := by
  subst hH
  obtain ⟨us, h1, h2⟩ := h.own
  obtain ⟨i, hi, hzz⟩ := Option.map_eq_some_iff.1 info_bytes
  simp only [Prod.mk.injEq] at hzz
  obtain ⟨hz, hsz, hby⟩ := hzz
  have hlf : f.length = un := by simpa [bvals] using hu.1
  have hown1 := ownsRow_below h1 hb
  refine wpList_append_lies _ hgd s x 23 ho B 29 i (.slice none 0 0) 1 24 Tryd.underlying23 hi hz hsz hby rfl (by decide) v fs.length us hs (hown1.alloc _) ⟨w1.heap.size, 0, none⟩ 1 1 [.slice ua un uc] hx rfl
    (World.news_of_block (heap_alloc_new w1 _)) (by intro u hu; simp at hu; subst hu; rfl) (by decide) (by unfold maxLen; omega) (by omega) (by simp; omega) _ rfl ?_
  intro g cap w' h4 h5 h6 _
  refine hk g cap w' ?_ (((Below.refl B w1).alloc hB _).grown h5 (by simp; omega) (fun k hk => (hown1.lt k hk).1))
  refine Frs.push (o := .cells #[.slice ua un uc] 29) h hb (u := .slice ua un uc) (f := f) (by show w1.ownsRow B 5 1 (.slice ua un uc) f.length (bvals f); rw [hlf]; exact hu) hun hsm (by omega) h1 rfl h4 h5 ?_
  rcases h6 with h6 | h6
  · exact .inl h6
  · right; rw [h6]; simp

/-! ### The table of configs -/
def modeN (n : Nat) : Nat := if n < 4 then 0 else if n < 6 then 1 else 2
def rateN (n : Nat) : Nat := [8000, 8000, 16000, 16000, 24000, 24000, 8000, 8000, 16000, 16000, 24000, 24000][n]?.getD 0
def cfgInts : List Int := (List.range 12).flatMap fun n => [(modeN n : Int), (rateN n : Int), (msN n : Int)]
def cfgArr : Array Value := #[.int .i64 0, .int .i64 8000, .int .i64 10, .int .i64 0, .int .i64 8000, .int .i64 20, .int .i64 0, .int .i64 16000, .int .i64 10, .int .i64 0, .int .i64 16000, .int .i64 20, .int .i64 1, .int .i64 24000, .int .i64 10, .int .i64 1, .int .i64 24000, .int .i64 20, .int .i64 2, .int .i64 8000, .int .i64 10, .int .i64 2, .int .i64 8000, .int .i64 20, .int .i64 2, .int .i64 16000, .int .i64 10, .int .i64 2, .int .i64 16000, .int .i64 20, .int .i64 2, .int .i64 24000, .int .i64 10, .int .i64 2, .int .i64 24000, .int .i64 20]
theorem cfg_arr : cfgArr = (cfgInts.map (Value.int .i64)).toArray := rfl

/-- The variable of the configs holds what the program's text lays. -/
def CfgAt (w : World) : Prop := ∃ ty fr, w.heap[0]? = some (.cells cfgArr ty fr)

theorem CfgAt.size {w : World} (h : CfgAt w) : 0 < w.heap.size := by
  obtain ⟨ty, fr, h⟩ := h
  exact (Array.getElem?_eq_some_iff.1 h).1

theorem CfgAt.keep {w w' : World} (h : CfgAt w) (hb : Below w.heap.size w w') : CfgAt w' := by
  have hs := h.size
  obtain ⟨ty, fr, h⟩ := h
  exact ⟨ty, fr, by rw [hb.block 0 hs]; exact h⟩

theorem CfgAt.drewN {w : World} (h : CfgAt w) (k : Nat) : CfgAt (w.drewN k) := h

end Go.Proofs.YtgiellpepnbpcaaDoor
