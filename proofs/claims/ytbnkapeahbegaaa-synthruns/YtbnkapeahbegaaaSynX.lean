/- The law of signs: two parts in variables of the law's own, and the list that grows in the second. -/
import Derived.Test.YtbnkapeahbegaaaSynW
import Derived.Test.YtbnkapeahbegaaaSynK
import Derived.Deep.RegionLaw
namespace Go.Proofs.Ytbnkapeahbegaaa
open Go.RowKit

structure Sgn (w : World) (g1 g2 : Nat) (P1 : Array Value) (u1 u2 u3 u4 u5 u6 u7 u8 v : Value) (ys : List Int) (W : World) : Prop where
  bel : Below w.heap.size w W
  b1 : W.heap[g1]? = some (.cells P1 31 (0, 0))
  b2 : W.heap[g2]? = some (.cells #[v, u1, u2, u3, u4, u5, u6, u7, u8] 31 (0, 0))
  own : W.ownsRow 0 2 1 v ys.length (ys.map (Value.int .i64))
  ap : ∀ k, v.ownBlock = some k → w.heap.size ≤ k ∧ k ≠ g1 ∧ k ≠ g2
  l1 : w.heap.size ≤ g1
  l2 : w.heap.size ≤ g2
  ne : g1 ≠ g2

section
variable {w W W' w' : World} {g1 g2 : Nat} {P1 : Array Value} {u1 u2 u3 u4 u5 u6 u7 u8 v : Value} {ys : List Int}
theorem Sgn.lt1 (h : Sgn w g1 g2 P1 u1 u2 u3 u4 u5 u6 u7 u8 v ys W) : g1 < W.heap.size := (Array.getElem?_eq_some_iff.1 h.b1).1
theorem Sgn.lt2 (h : Sgn w g1 g2 P1 u1 u2 u3 u4 u5 u6 u7 u8 v ys W) : g2 < W.heap.size := (Array.getElem?_eq_some_iff.1 h.b2).1
theorem Sgn.keep (h : Sgn w g1 g2 P1 u1 u2 u3 u4 u5 u6 u7 u8 v ys W) (hb : Below W.heap.size W W') : Sgn w g1 g2 P1 u1 u2 u3 u4 u5 u6 u7 u8 v ys W' :=
  ⟨h.bel.trans (hb.mono h.bel.size), (hb.block g1 h.lt1).trans h.b1, (hb.block g2 h.lt2).trans h.b2, ownsRow_stays h.own fun k hk => hb.block k (ownBlk_lt h.own hk), h.ap, h.l1, h.l2, h.ne⟩
/-- One number more. -/
theorem Sgn.push (h : Sgn w g1 g2 P1 u1 u2 u3 u4 u5 u6 u7 u8 v ys W) {z : Int} {n' g cap : Nat} (hn : n' = ys.length + 1) (hb : Below W.heap.size W W') (ho : w'.ownsRow 0 2 1 (.slice (some ⟨g, 0, none⟩) n' cap) n' ((ys ++ [z]).map (Value.int .i64))) (hg : W'.grownBy w' v.ownBlock) (hat : v.ownBlock = some g ∨ W'.heap.size ≤ g) :
    Sgn w g1 g2 P1 u1 u2 u3 u4 u5 u6 u7 u8 (.slice (some ⟨g, 0, none⟩) n' cap) (ys ++ [z]) (w'.setCell ⟨g2, 0, none⟩ (.slice (some ⟨g, 0, none⟩) n' cap)) := by
  subst hn
  have h' := h.keep hb
  have hk : ∀ k, k < W'.heap.size → v.ownBlock ≠ some k → w'.heap[k]? = W'.heap[k]? := fun k hk hn => hg.block k hk (fun e => hn e.symm)
  have hgg : ∀ k, (Value.slice (some ⟨g, 0, none⟩) (ys.length + 1) cap).ownBlock = some k → k = g := fun k hk => by
    have : some g = some k := hk
    cases this; rfl
  have hgn : w.heap.size ≤ g ∧ g ≠ g1 ∧ g ≠ g2 := by
    rcases hat with e | e
    · exact h.ap _ e
    · have := h'.lt1
      have := h'.lt2
      have := h'.bel.size
      exact ⟨by omega, by omega, by omega⟩
  have hset : ∀ k, k ≠ g2 → (w'.setCell ⟨g2, 0, none⟩ (.slice (some ⟨g, 0, none⟩) (ys.length + 1) cap)).heap[k]? = w'.heap[k]? := fun k hk => Below.heap_setCell _ _ _ _ hk
  refine ⟨(h'.bel.trans ?_).setCell (p := ⟨g2, 0, none⟩) h.l2 _, ?_, ?_, ?_, fun k h1 => by rw [hgg k h1]; exact hgn, h.l1, h.l2, h.ne⟩
  · exact (Below.refl w.heap.size W').grown hg h'.bel.size (fun k hk => (h.ap k hk).1)
  · rw [hset g1 h.ne, hk g1 h'.lt1 (fun e => (h.ap _ e).2.1 rfl)]
    exact h'.b1
  · exact heap_setCell_same w' g2 0 _ _ _ ((hk g2 h'.lt2 (fun e => (h.ap _ e).2.2 rfl)).trans h'.b2)
  · rw [List.length_append]
    exact ownsRow_stays ho fun k h1 => hset k (by rw [hgg k h1]; exact hgn.2.2)
theorem Sgn.grown2 (h : Sgn w g1 g2 P1 u1 u2 u3 u4 u5 u6 u7 u8 v ys W) (hb : Below W.heap.size W W') (hg : W'.grownBy w' v.ownBlock) : w'.cell? ⟨g2, 0, none⟩ = some v ∧ w'.frozen? ⟨g2, 0, none⟩ = false := by
  have h' := h.keep hb
  have hh := (hg.block g2 h'.lt2 (fun e => (h.ap _ e.symm).2.2 rfl)).trans h'.b2
  exact ⟨by rw [cell_of_row w' g2 _ _ _ (0, 0) hh]; rfl, frozen_of_row w' g2 _ _ _ hh⟩
end

theorem nine_cells {W : World} {g : Nat} {u0 u1 u2 u3 u4 u5 u6 u7 u8 : Value} {T : TypeId} (h : W.heap[g]? = some (.cells #[u0, u1, u2, u3, u4, u5, u6, u7, u8] T (0, 0))) :
    (W.cell? ⟨g, 0, none⟩ = some u0 ∧ W.cell? ⟨g, 1, none⟩ = some u1 ∧ W.cell? ⟨g, 2, none⟩ = some u2 ∧ W.cell? ⟨g, 3, none⟩ = some u3 ∧ W.cell? ⟨g, 4, none⟩ = some u4 ∧ W.cell? ⟨g, 5, none⟩ = some u5 ∧ W.cell? ⟨g, 6, none⟩ = some u6 ∧ W.cell? ⟨g, 7, none⟩ = some u7 ∧ W.cell? ⟨g, 8, none⟩ = some u8) ∧ ∀ j, W.frozen? ⟨g, j, none⟩ = false := by
  refine ⟨⟨?_, ?_, ?_, ?_, ?_, ?_, ?_, ?_, ?_⟩, fun j => frozen_of_row W g j _ _ h⟩ <;> (rw [cell_of_row W g _ _ _ (0, 0) h]; rfl)

theorem step_push_num {ops : Array Oper} {o : Oper} {a : Act} {W : World} {K : Act → World → Prop} {Q : Exit → Act → World → Prop} {E : Prop} (B n : Nat) (v : Value) (zs : List Int) (y : Int) (H : Nat)
    (hown : W.ownsRow B 2 1 v n (zs.map (Value.int .i64))) (hm : n ≤ 1000) (hB : B ≤ W.heap.size) (hnew : W.heap[H]? = some (.cells #[.int .i64 y] 2))
    (hgd : o.guard = none) (s x : Operand) (ho : o.op = .call { callee := .builtin .append, args := #[s, x], argTypes := #[25, 25] }) (hs : a.eval s = v) (hx : a.eval x = .slice (some ⟨H, 0, none⟩) 1 1)
    (hk : ∀ g cap w', w'.ownsRow B 2 1 (.slice (some ⟨g, 0, none⟩) (n + 1) cap) (n + 1) ((zs ++ [y]).map (Value.int .i64)) → W.grownBy w' v.ownBlock → (v.ownBlock = some g ∨ W.heap.size ≤ g) → K (a.put o.dst (.slice (some ⟨g, 0, none⟩) (n + 1) cap)) w') :
    if Region.wanted o (yielded ops a.tmps) = true then Oper.wp Try.prog o a W K Q else E := by
  obtain ⟨i, hi, hzz⟩ := Option.map_eq_some_iff.1 info_int64
  simp only [Prod.mk.injEq] at hzz
  obtain ⟨hz, hsz, hby⟩ := hzz
  refine step_append_lies _ hgd s x 25 ho B 2 i (.int .i64 0) 1 8 Try.underlying25 hi hz hsz hby rfl (by decide) v n (zs.map (Value.int .i64)) hs hown ⟨H, 0, none⟩ 1 1 [.int .i64 y] hx rfl
    (World.news_of_block hnew) (by intro u hu; simp at hu; subst hu; rfl) (by decide) (by unfold maxLen; omega) (by omega) hB _ rfl ?_
  intro g cap w' h4 h5 h6 _
  have e : (zs ++ [y]).map (Value.int .i64) = zs.map (Value.int .i64) ++ [.int .i64 y] := by rw [List.map_append]; rfl
  refine hk g cap w' (by rw [e]; exact h4) h5 ?_
  rcases h6 with h6 | h6
  · exact .inl h6
  · exact .inr (by omega)

theorem signs_sounds {l t : List Int} {loud : Int} (hg : goodB l loud 0 t [] = true) : soundsL ⟨loud, (0 : Int).toNat, t, []⟩ l (zeros 320) (zeros 32) = l.map (· * loud) := by
  obtain ⟨hf, _, _, _, hp⟩ := goodB_fine hg
  unfold soundsL
  refine runS_plain rfl rfl hf.loud0 hf.loud1 l _ _ fun x hx => ?_
  obtain ⟨k, hk, rfl⟩ := List.mem_iff_getElem.1 hx
  have := hp k
  rw [List.getElem?_eq_getElem hk] at this
  exact this
def negL (l : List Int) : List Int := l.map (- ·)
theorem negL_at {l : List Int} {k : Nat} (h : k < l.length) : (negL l)[k]?.getD 0 = -(l[k]?.getD 0) := by
  unfold negL
  rw [List.getElem?_map, List.getElem?_eq_getElem h]
  rfl
theorem negL_step {l : List Int} {k : Nat} (h : k < l.length) : negL (l.take (k + 1)) = negL (l.take k) ++ [-(l[k]?.getD 0)] := by
  unfold negL
  rw [take_snoc h, List.map_append]
  rfl
theorem negL_len (l : List Int) : (negL l).length = l.length := by unfold negL; rw [List.length_map]
theorem negL_good {l t f : List Int} {loud lag : Int} (h : goodB l loud lag t f = true) : goodB (negL l) loud lag t f = true := by
  unfold goodB at h ⊢
  rw [negL_len]
  simp only [Bool.and_eq_true] at h ⊢
  obtain ⟨h1, h2, h3, h4⟩ := h
  refine ⟨h1, h2, ?_, h4⟩
  unfold withinB negL at *
  rw [List.all_eq_true] at h3 ⊢
  intro x hx
  obtain ⟨y, hy, rfl⟩ := List.mem_map.1 hx
  have := h3 y hy
  simp only [decide_eq_true_eq] at this ⊢
  omega
theorem mul_at {l : List Int} {k : Nat} {c : Int} (h : k < l.length) : (l.map (· * c))[k]?.getD 0 = l[k]?.getD 0 * c := by
  rw [List.getElem?_map, List.getElem?_eq_getElem h]
  rfl

end Go.Proofs.Ytbnkapeahbegaaa
