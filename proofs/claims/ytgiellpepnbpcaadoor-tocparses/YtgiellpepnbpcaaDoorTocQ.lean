/- Noughts put behind bytes of the call's own; a packet put together, piece by piece. -/
import Derived.Test.YtgiellpepnbpcaaDoorTocE
import Derived.Lib.AppendZeros
import Derived.Lib.AppendZerosOnto
namespace Go.Proofs.YtgiellpepnbpcaaDoor
open Go.RowKit

theorem zerosK (k : Nat) : Builtin.zeroCells (Value.int .u8 0).cells k = (bvals (List.replicate k 0)).toArray := by
  have hs : (Value.int IntKind.u8 0).cells = #[Value.int .u8 0] := rfl
  apply Array.ext
  · rw [size_zeroCells, hs]; simp [bvals]
  · intro i h1 h2
    have hm : i % 1 = 0 := Nat.mod_one i
    simp [Builtin.zeroCells, hs, bvals, hm]

theorem bvals_len (l : List Nat) : (bvals l).length = l.length := by simp [bvals]

theorem append_zeros (k : Nat) (hk : k ≤ 1000) (ty : TypeId) (B : Nat) (w : World) (a : Addr) (n cap : Nat) (bs : List Nat) (hown : w.ownsRow B 5 1 (.slice (some a) n cap) n (bvals bs)) (hn : n ≤ 1000000) (hB : B ≤ w.heap.size) :
    ∃ a' c' w', (Builtin.append_ #[29, 3] ty #[.slice (some a) n cap, .int .i64 (k : Nat)]).run Tryd.prog w = .ok (.slice a' (n + k) c') w' ∧ w'.ownsRow B 5 1 (.slice a' (n + k) c') (n + k) (bvals (bs ++ List.replicate k 0)) ∧ Below B w w' := by
  obtain ⟨i, hi, hzz⟩ := Option.map_eq_some_iff.1 info_uint8
  simp only [Prod.mk.injEq] at hzz
  obtain ⟨hz, hsz, hb⟩ := hzz
  have hl : bs.length = n := by have := hown.1; rw [bvals_len] at this; omega
  have hb2 : bvals (bs ++ List.replicate k 0) = bvals bs ++ bvals (List.replicate k 0) := by rw [bvals, List.map_append]; rfl
  have hlen : (bvals (bs ++ List.replicate k 0)).length = (n + k) * 1 := by rw [bvals_len, List.length_append, List.length_replicate]; omega
  have hkl : (bvals (List.replicate k 0)).length = k := by rw [bvals_len, List.length_replicate]
  rcases hown.2 with ⟨hv, _⟩ | ⟨g, cap', cur, hv, hbg, hg, hnc, hcm, hcs, htake⟩
  · cases hv
  cases hv
  by_cases hk0 : k = 0
  · subst hk0
    have hr : (Builtin.append_ #[29, 3] ty #[.slice (some ⟨g, 0, none⟩) n cap, .int .i64 ((0 : Nat) : Int)]).run Tryd.prog w = .ok (.slice (some ⟨g, 0, none⟩) n cap) w := by
      have hw0 : IntKind.i64.wrap (0 : Int) = 0 := by rw [IntKind.wrap_i64]; rfl
      simp [Builtin.append_, run_underlying Tryd.underlying29, run_underlying Tryd.underlying3, sizeOf, typeInfo, zeroValue, hi, hz, hb, asInt, asIntOf, hw0, hnc, Addr.add_lit, storeCells]
    refine ⟨_, _, _, hr, ?_, Below.refl _ _⟩
    have e : bs ++ List.replicate 0 0 = bs := by simp
    rw [e]
    exact hown
  by_cases hroom : n + k ≤ cap
  · have hone : ∀ u ∈ bvals (List.replicate k 0), u.oneCell' = true := by intro u hu; obtain ⟨q, _, rfl⟩ := List.mem_map.1 hu; rfl
    have hzk := zerosK k
    generalize bvals (List.replicate k 0) = Z at *
    have hst := run_storeCells_at Tryd.prog g n 5 Z 0 cur w hg (by omega) hone
    simp only [Nat.add_zero] at hst
    have hwk : IntKind.i64.wrap (k : Int) = k := by rw [IntKind.wrap_i64]; omega
    have hr : (Builtin.append_ #[29, 3] ty #[.slice (some ⟨g, 0, none⟩) n cap, .int .i64 (k : Nat)]).run Tryd.prog w =
        .ok (.slice (some ⟨g, 0, none⟩) (n + k) cap) (w.setRow g (cur.toList.take n ++ Z ++ cur.toList.drop (n + Z.length)).toArray) := by
      simp [Builtin.append_, run_underlying Tryd.underlying29, run_underlying Tryd.underlying3, sizeOf, typeInfo, zeroValue, hi, hz, hsz, hb, asInt, asIntOf, hwk, hroom, hzk, Addr.add_lit, hk0, show ¬ (k : Int) < 0 by omega, show ¬ (281474976710656 : Int) < (k : Int) by omega]
      rw [List.append_assoc] at hst
      rw [hst]
      rfl
    refine ⟨_, _, _, hr, ⟨hlen, .inr ⟨g, cap, _, rfl, hbg, setRow_heap w g cur _ 5 _ hg, hroom, hcm, ?_, ?_⟩⟩, ⟨rfl, rfl, rfl, by simp, fun k hk => setRow_other w g k _ (by omega)⟩⟩
    · simp only [List.size_toArray, List.length_append, List.length_take, List.length_drop, Array.length_toList, hkl]
      omega
    · rw [Nat.mul_one] at htake
      rw [htake, ← hb2, ← hlen]
      exact List.take_left
  · have hk1 : 0 < k := by omega
    have hge := grownCap_ge w (n + k) cap 5
    have hcm2 : grownCap w (n + k) cap 5 ≤ maxLen := grownCap_le_maxLen w (n + k) cap 5 (by unfold maxLen; omega)
    have hz1 : (Value.int IntKind.u8 0).cells.size = 1 := rfl
    have hold : (Builtin.firstCells i.size n (.slice (some ⟨g, 0, none⟩) n cap)).run Tryd.prog w.drew = .ok (bvals bs).toArray w.drew := by
      rw [hsz]
      exact run_firstCells_some w.drew 1 n ⟨g, 0, none⟩ n cap (bvals bs) hown.1 (by
        intro j u hj
        have := hown.cells (g := g) rfl j u hj
        simpa using this)
    have hr := Lib.run_append_grow_zeros (P := Tryd.prog) w 29 3 ty 5 i (.int .u8 0) .i64 .i64 Tryd.underlying29 Tryd.underlying3 hi hz (some ⟨g, 0, none⟩) n cap (bvals bs) hold k hk1 (by omega) (by omega) (by omega) (by rw [hb]; omega)
      (growslice_fits (bytes := i.bytes) (by omega) (by rw [hb]; omega))
    rw [zerosK] at hr
    refine ⟨_, _, _, hr, ⟨hlen, .inr ⟨w.heap.size, _, _, rfl, hB, heap_alloc_new w.drew _, hge, hcm2, ?_, ?_⟩⟩, ((Below.refl B w).drew).alloc hB _⟩
    · simp only [Array.size_append, List.size_toArray, size_zeroCells, hz1, bvals_len, List.length_replicate]
      omega
    · simp only [Array.toList_append, List.append_assoc]
      rw [← List.append_assoc, ← hb2, ← hlen]
      exact List.take_left

theorem wpList_append_zeros {ops : Array Oper} {rest : List Oper} {o : Oper} {a : Act} {w : World} {Q : Exit → Act → World → Prop} (k : Nat) (hk : k ≤ 1000) (B : Nat) (ad : Addr) (n cap : Nat) (bs : List Nat)
    (hown : w.ownsRow B 5 1 (.slice (some ad) n cap) n (bvals bs)) (hn : n ≤ 1000000) (hB : B ≤ w.heap.size)
    (hw : Region.wanted o (yielded ops a.tmps) = true) (s x : Operand)
    (ho : o.op = .call { callee := .builtin .append, args := #[s, x], argTypes := #[29, 3] })
    (hsv : a.eval s = .slice (some ad) n cap) (hxv : a.eval x = .int .i64 (k : Nat))
    (h : ∀ a' c' w', w'.ownsRow B 5 1 (.slice a' (n + k) c') (n + k) (bvals (bs ++ List.replicate k 0)) → Below B w w' → wpList Tryd.prog ops Q rest (a.put o.dst (.slice a' (n + k) c')) w') :
    wpList Tryd.prog ops Q (o :: rest) a w := by
  obtain ⟨a', c', w', hr, ho', hb⟩ := append_zeros k hk o.type B w ad n cap bs hown hn hB
  exact wpList_append_run hw s x _ _ ho _ _ hsv hxv _ _ hr (h a' c' w' ho' hb)

/-! ### The pieces -/
/-- A packet's bytes ahead of the frames' lengths. -/
def frontN (p : Pk) : List Nat :=
  (headN p + codeN p.pad p.frames.length (!(alikeN p.frames))) :: ((if codeN p.pad p.frames.length (!(alikeN p.frames)) = 3 then [codeByte p] else []) ++ (if p.pad = 0 then [] else padBytes p.pad))

theorem packN_pieces {p : Pk} (h : GoodP p) : packN p = frontN p ++ ((if alikeN p.frames = true then [] else putsN (lensOf p.frames)) ++ (flatN p.frames ++ List.replicate p.pad 0)) := by
  have h0 := h.some_
  unfold packN packT frontN codeN
  by_cases hp : p.pad = 0
  · by_cases h1 : p.frames.length = 1
    · obtain ⟨f, hf⟩ := List.length_eq_one_iff.1 h1
      have ha : alikeN p.frames = true := by rw [hf]; rfl
      simp [hp, h1, ha]
    · by_cases h2 : p.frames.length = 2
      · cases ha : alikeN p.frames <;> simp [hp, h2]
      · have h3 : 2 < p.frames.length := by omega
        cases ha : alikeN p.frames <;> simp [hp, h1, h2, h3]
  · have hp2 : 0 < p.pad := by omega
    cases ha : alikeN p.frames <;> simp [hp, hp2]

theorem frontN_len {p : Pk} (h : GoodP p) : (frontN p).length ≤ 10 := by
  have := h.pad
  unfold frontN padBytes
  simp only [List.length_cons, List.length_append]
  split <;> split <;> simp <;> omega

theorem putN_len (n : Nat) : (putN n).length ≤ 2 := by unfold putN; split <;> simp

theorem ob_made (w : World) (z : Int) (x : Nat) (hz : z = (x : Nat)) {B : Nat} (hB : B ≤ w.heap.size) : Ob B (w.alloc (.cells #[.int .u8 z] 5)) (.slice (some ⟨w.heap.size, 0, none⟩) 1 1) [x] := by
  subst hz
  exact ⟨rfl, .inr ⟨w.heap.size, 1, _, rfl, hB, heap_alloc_new w _, Nat.le_refl _, by decide, rfl, rfl⟩⟩

end Go.Proofs.YtgiellpepnbpcaaDoor
