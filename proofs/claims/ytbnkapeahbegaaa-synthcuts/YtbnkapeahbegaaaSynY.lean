/- A part cut in two: plain; two boxes among others; one list appended to another that has no room. -/
import Derived.Test.YtbnkapeahbegaaaSynX
import Derived.Deep.AppendSrc
import Derived.Laws.Append
namespace Go.Proofs.Ytbnkapeahbegaaa
open Go.RowKit

theorem Alike.eq {n : Nat} {l m : List Int} (h : Alike n l m) (hl : l.length = n) (hm : m.length = n) : l = m := by
  apply List.ext_getElem
  · omega
  · intro i h1 h2
    have := h i (by omega)
    rw [List.getElem?_eq_getElem h1, List.getElem?_eq_getElem h2] at this
    exact this

theorem rev_eq {l m : List Int} (h : l.reverse = m.reverse) : l = m := by
  have := congrArg List.reverse h
  rwa [List.reverse_reverse, List.reverse_reverse] at this

/-- Cut in two: the same samples, the same kept. -/
theorem cut_same {p : PartP} (hp : p.Fine) {l D E : List Int} (c : Nat) (hD : D.length = 320) (hE : E.length = 32) :
    soundsL p l D E = soundsL p (l.take c) D E ++ soundsL p (l.drop c) (nextD p (l.take c) D E) (nextE p (l.take c) D E) ∧
    nextD p l D E = nextD p (l.drop c) (nextD p (l.take c) D E) (nextE p (l.take c) D E) ∧ nextE p l D E = nextE p (l.drop c) (nextD p (l.take c) D E) (nextE p (l.take c) D E) := by
  obtain ⟨h1, h2, h3⟩ := runS_two (p := p) (l := l.take c) (m := l.drop c) (R := D.reverse) (O := E.reverse) hp.lag_le hp.flen (nextD_alike (p := p) (l := l.take c) (E := E) hD) (nextE_alike (p := p) (l := l.take c) (D := D) hE)
  rw [List.take_append_drop] at h1 h2 h3
  have d1 : (nextD p (l.take c) D E).length = 320 := by rw [nextD_len, hD]
  have e1 : (nextE p (l.take c) D E).length = 32 := by rw [nextE_len, hE]
  refine ⟨h1, ?_, ?_⟩
  · have k1 := nextD_alike (p := p) (l := l) (E := E) hD
    have k2 := nextD_alike (p := p) (l := l.drop c) (E := nextE p (l.take c) D E) d1
    have := ((k1.trans h2).trans k2.symm).eq (by rw [List.length_reverse, nextD_len, hD]) (by rw [List.length_reverse, nextD_len, d1])
    exact rev_eq this
  · have k1 := nextE_alike (p := p) (l := l) (D := D) hE
    have k2 := nextE_alike (p := p) (l := l.drop c) (D := nextD p (l.take c) D E) e1
    have := ((k1.trans h3).trans k2.symm).eq (by rw [List.length_reverse, nextE_len, hE]) (by rw [List.length_reverse, nextE_len, e1])
    exact rev_eq this

theorem withinB_take {m : Int} {l : List Int} (h : withinB m l = true) (c : Nat) : withinB m (l.take c) = true ∧ withinB m (l.drop c) = true := by
  unfold withinB at *
  rw [List.all_eq_true] at *
  exact ⟨fun x hx => h x (List.mem_of_mem_take hx), by rw [List.all_eq_true]; exact fun x hx => h x (List.mem_of_mem_drop hx)⟩
theorem cut_good {l t f : List Int} {loud lag : Int} (h : goodB l loud lag t f = true) {c : Nat} (h1 : 1 ≤ c) (h2 : c < l.length) : goodB (l.take c) loud lag t f = true ∧ goodB (l.drop c) loud lag t f = true := by
  unfold goodB at h ⊢
  simp only [Bool.and_eq_true, decide_eq_true_eq] at h ⊢
  obtain ⟨k1, k2, k3, k4⟩ := h
  obtain ⟨m1, m2⟩ := withinB_take k3 c
  rw [List.length_take, List.length_drop]
  exact ⟨⟨by omega, by omega, m1, k4⟩, by omega, by omega, m2, k4⟩

/-- Two variables of the law's own, among others. -/
structure CutW (w : World) (ga gb : Nat) (CA CB : Array Value) (W : World) : Prop where
  bel : Below w.heap.size w W
  ba : W.heap[ga]? = some (.cells CA 31 (0, 0))
  bb : W.heap[gb]? = some (.cells CB 31 (0, 0))
theorem CutW.keep {w W W' : World} {ga gb : Nat} {CA CB : Array Value} (h : CutW w ga gb CA CB W) (hb : Below W.heap.size W W') : CutW w ga gb CA CB W' :=
  ⟨h.bel.trans (hb.mono h.bel.size), (hb.block ga (Array.getElem?_eq_some_iff.1 h.ba).1).trans h.ba, (hb.block gb (Array.getElem?_eq_some_iff.1 h.bb).1).trans h.bb⟩
theorem CutW.turn {w W W' : World} {ga gb p : Nat} {CA CB : Array Value} (h : CutW w ga gb CA CB W) (ht : Turn p W W') (hp : w.heap.size ≤ p) (ha : ga ≠ p) (hb : gb ≠ p) : CutW w ga gb CA CB W' :=
  ⟨h.bel.trans (ht.below hp h.bel.size), (ht.block ga (Array.getElem?_eq_some_iff.1 h.ba).1 ha).trans h.ba, (ht.block gb (Array.getElem?_eq_some_iff.1 h.bb).1 hb).trans h.bb⟩
theorem CutW.lta {w W : World} {ga gb : Nat} {CA CB : Array Value} (h : CutW w ga gb CA CB W) : ga < W.heap.size ∧ gb < W.heap.size := ⟨(Array.getElem?_eq_some_iff.1 h.ba).1, (Array.getElem?_eq_some_iff.1 h.bb).1⟩

/-- 'append(y, z...)', y without room. -/
theorem append_join (ty : TypeId) (w : World) (g o n c2 m : Nat) (b : Option Addr) (ys zs : List Int) (hy : Zs w (some ⟨g, o, none⟩) n ys) (hz : Zs w b m zs) (hn0 : 0 < n) (hm : 0 < m) (hnm : n + m ≤ 100000) :
    ∃ a' c w', (Builtin.append_ #[25, 25] ty #[.slice (some ⟨g, o, none⟩) n n, .slice b m c2]).run Try.prog w = .ok (.slice a' (n + m) c) w' ∧ Zs w' a' (n + m) (ys ++ zs) ∧ Below w.heap.size w w' := by
  obtain ⟨i, hi, hzz⟩ := Option.map_eq_some_iff.1 info_int64
  simp only [Prod.mk.injEq] at hzz
  obtain ⟨hz0, hsz, hby⟩ := hzz
  obtain ⟨x, hx, hcy⟩ := zs_adds hy hn0
  obtain ⟨x2, rfl, hcz⟩ := zs_adds hz hm
  cases hx
  have cells : ∀ (q : List Int) (ad : Addr) (k : Nat), q.length = k → (∀ i, i < k → w.cell? (ad.add i) = some (.int .i64 (q[i]?.getD 0))) → ∀ j u, (q.map (Value.int .i64))[j]? = some u → w.cell? (ad.add j) = some u := fun q ad k hk hc j u hj => by
    have hjl : j < q.length := by have := (List.getElem?_eq_some_iff.1 hj).1; simpa using this
    rw [hc j (by omega), ← hj, List.getElem?_map, List.getElem?_eq_getElem hjl]
    rfl
  have hold := run_firstCells_some (P := Try.prog) w.drew 1 n ⟨g, o, none⟩ n n (ys.map (Value.int .i64)) (by rw [List.length_map, hy.len, Nat.mul_one]) (cells ys _ n hy.len hcy)
  have hsrc : Src Try.prog 1 25 (.slice (some x2) m c2) m (zs.map (Value.int .i64)) w := Src.ofSlice w Try.underlying25 x2 m c2 _ (by rw [List.length_map, hz.len, Nat.mul_one]) (cells zs _ m hz.len hcz) (fun u hu => by obtain ⟨q, _, rfl⟩ := List.mem_map.1 hu; rfl)
  have hcap := nextslicecap_le (need := n + m) (old := n) (by omega)
  rw [← hsz] at hold hsrc
  have hrun := run_append_grow_src (P := Try.prog) w 25 25 ty 2 i (.int .i64 0) Try.underlying25 hi hz0 (some ⟨g, o, none⟩) n n (ys.map (Value.int .i64)) hold (.slice (some x2) m c2) m (zs.map (Value.int .i64)) hsrc (by omega) (by omega) (by rw [hby]; omega)
  refine ⟨_, _, _, hrun, ⟨by rw [List.length_append, hy.len, hz.len], fun _ => ⟨w.heap.size, 0, rfl, by rw [World.size_alloc]; exact Nat.lt_succ_self _, fun k hk => ?_⟩⟩, ((Below.refl _ _).drew).alloc (Nat.le_refl _) _⟩
  have hh := heap_alloc_new w.drew (.cells (((ys.map (Value.int .i64)) ++ (zs.map (Value.int .i64))).toArray ++ Builtin.zeroCells (Value.int .i64 0).cells (grownCap w (n + m) n 2 - (n + m))) 2)
  rw [cell_of_row _ w.heap.size _ _ _ (0, 0) hh, Nat.zero_add, ← List.map_append]
  have hkl : k < (ys ++ zs).length := by rw [List.length_append, hy.len, hz.len]; exact hk
  rw [Array.getElem?_append_left (by simpa using hkl), List.getElem?_toArray, List.getElem?_map, List.getElem?_eq_getElem hkl]
  rfl

theorem boxes_two (W : World) (C : Array Value) (T : TypeId) : ((W.alloc (.cells C T)).alloc (.cells C T)).drew.heap[W.heap.size]? = some (.cells C T (0, 0)) ∧ ((W.alloc (.cells C T)).alloc (.cells C T)).drew.heap[W.heap.size + 1]? = some (.cells C T (0, 0)) ∧ Below W.heap.size W ((W.alloc (.cells C T)).alloc (.cells C T)).drew :=
  ⟨(Below.heap_alloc (W.alloc (.cells C T)) _ W.heap.size (by simp)).trans (heap_alloc_new W _), by
    have := heap_alloc_new (W.alloc (.cells C T)) (.cells C T)
    rwa [World.size_alloc] at this, (((Below.refl _ _).alloc (Nat.le_refl _) _).alloc (by simp) _).drew⟩

/-- 'l[:hi]'. -/
theorem slice_upto (g off n cap hi : Nat) (h3 : hi ≤ cap) : (∀ W, (Instr.slice 25 (.slice (some ⟨g, off, none⟩) n cap) none (some (.int .i64 (hi : Int))) none).run Try.prog W = .ok (.slice (some ⟨g, off, none⟩) hi cap) W) ∧
    ∀ W, (Instr.sliceAt 25 (.slice (some ⟨g, off, none⟩) n cap) none (some (.int .i64 (hi : Int))) none).run Try.prog W = .ok (.slice (some ⟨g, off, none⟩) hi cap) W := by
  have hr : ∀ W, (Instr.slice 25 (.slice (some ⟨g, off, none⟩) n cap) none (some (.int .i64 (hi : Int))) none).run Try.prog W = .ok (.slice (some ⟨g, off, none⟩) hi cap) W := fun W => by
    rw [run_slice_h (P := Try.prog) (w := W) 25 (some ⟨g, off, none⟩) n cap elem_numbers .i64 hi (by omega) (by omega), size_numbers]
    show Result.ok (sliced _ _ _ _ 1) W = _
    unfold sliced
    rw [Int.toNat_natCast]
    simp [Addr.add]
  exact ⟨hr, fun W => by rw [run_sliceAt_slice (P := Try.prog) (w := W) (h := elem_numbers)]; exact hr W⟩

theorem CutW.stores {w V : World} {x r : Nat} {u0 u1 u2 u3 u4 u5 u6 u7 u8 : Value} (h : CutW w x r #[u0, u1, u2, u3, u4, u5, u6, u7, u8] #[u0, u1, u2, u3, u4, u5, u6, u7, u8] V) (hx : w.heap.size ≤ x) (hr : w.heap.size ≤ r) (hne : x ≠ r) (s1 s2 : Value) :
    CutW w x r #[s1, u1, u2, u3, u4, u5, u6, u7, u8] #[s2, u1, u2, u3, u4, u5, u6, u7, u8] ((V.setCell ⟨x, 0, none⟩ s1).setCell ⟨r, 0, none⟩ s2) :=
  ⟨(h.bel.setCell (p := ⟨x, 0, none⟩) hx _).setCell (p := ⟨r, 0, none⟩) hr _, (Below.heap_setCell _ _ _ _ hne).trans (heap_setCell_same V x 0 _ _ _ h.ba), heap_setCell_same _ r 0 _ _ _ ((Below.heap_setCell _ _ _ _ (Ne.symm hne)).trans h.bb)⟩
theorem two_sets {V : World} {x r k : Nat} {s1 s2 : Value} (h1 : k ≠ x) (h2 : k ≠ r) : ((V.setCell ⟨x, 0, none⟩ s1).setCell ⟨r, 0, none⟩ s2).heap[k]? = V.heap[k]? :=
  (Below.heap_setCell _ _ _ _ h2).trans (Below.heap_setCell _ _ _ _ h1)

end Go.Proofs.Ytbnkapeahbegaaa
