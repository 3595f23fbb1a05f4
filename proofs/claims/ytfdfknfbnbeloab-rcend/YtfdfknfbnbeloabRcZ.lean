/- Sixty noughts put behind bytes of the call's own: what gc makes of 'append(s, make([]byte, 60)...)'. -/
import Derived.Test.YtfdfknfbnbeloabRcJ
import Derived.Lib.AppendZeros
import Derived.Lib.AppendZerosOnto
namespace Go.Proofs.Ytfdfknfbnbeloab
open Go.RowKit

theorem zeros60 : Builtin.zeroCells (Value.int .u8 0).cells 60 = (bvals (List.replicate 60 0)).toArray := by kernel_rfl

theorem bvals_len (l : List Nat) : (bvals l).length = l.length := by simp [bvals]

theorem append_sixty (ty : TypeId) (B : Nat) (w : World) (v : Value) (n : Nat) (bs : List Nat) (hown : w.ownsRow B 5 1 v n (bvals bs)) (hn : n ≤ 1000) (hB : B ≤ w.heap.size) :
    ∃ v' w', (Builtin.append_ #[22, 3] ty #[v, .int .i64 60]).run Try.prog w = .ok v' w' ∧ w'.ownsRow B 5 1 v' (n + 60) (bvals (bs ++ List.replicate 60 0)) ∧ Below B w w' := by
  obtain ⟨i, hi, hzz⟩ := Option.map_eq_some_iff.1 info_uint8
  simp only [Prod.mk.injEq] at hzz
  obtain ⟨hz, hsz, hb⟩ := hzz
  have hl : bs.length = n := by have := hown.1; rw [bvals_len] at this; omega
  have hb2 : bvals (bs ++ List.replicate 60 0) = bvals bs ++ bvals (List.replicate 60 0) := by rw [bvals, List.map_append]; rfl
  have hlen : (bvals (bs ++ List.replicate 60 0)).length = (n + 60) * 1 := by rw [bvals_len, List.length_append, List.length_replicate]; omega
  have h60 : (bvals (List.replicate 60 0)).length = 60 := by rw [bvals_len, List.length_replicate]
  have grown : ∀ old : Nat, old < n + 60 →
      (w.drew.alloc (.cells ((bvals bs).toArray ++ (bvals (List.replicate 60 0)).toArray ++ Builtin.zeroCells (Value.int .u8 0).cells (grownCap w (n + 60) old 5 - (n + 60))) 5)).ownsRow B 5 1
        (.slice (some ⟨w.heap.size, 0, none⟩) (n + 60) (grownCap w (n + 60) old 5)) (n + 60) (bvals (bs ++ List.replicate 60 0)) ∧
      Below B w (w.drew.alloc (.cells ((bvals bs).toArray ++ (bvals (List.replicate 60 0)).toArray ++ Builtin.zeroCells (Value.int .u8 0).cells (grownCap w (n + 60) old 5 - (n + 60))) 5)) := by
    intro old ho
    have hge := grownCap_ge w (n + 60) old 5
    have hcm : grownCap w (n + 60) old 5 ≤ maxLen := grownCap_le_maxLen w (n + 60) old 5 (by unfold maxLen; omega)
    have hz1 : (Value.int IntKind.u8 0).cells.size = 1 := rfl
    refine ⟨⟨hlen, .inr ⟨w.heap.size, _, _, rfl, hB, heap_alloc_new w.drew _, hge, hcm, ?_, ?_⟩⟩, ((Below.refl B w).drew).alloc hB _⟩
    · simp only [Array.size_append, List.size_toArray, size_zeroCells, hz1, bvals_len, List.length_replicate]
      omega
    · simp only [Array.toList_append, List.append_assoc]
      rw [← List.append_assoc, ← hb2, ← hlen]
      exact List.take_left
  rcases hown.2 with ⟨rfl, rfl⟩ | ⟨g, cap, cur, rfl, hbg, hg, hnc, hcm, hcs, htake⟩
  · obtain rfl : bs = [] := List.eq_nil_of_length_eq_zero hl
    have hr := Lib.run_append_nil_zeros (P := Try.prog) w 22 3 ty 5 i (.int .u8 0) .i64 .i64 Try.underlying22 Try.underlying3 hi hz 60 (by decide) (by omega) (by decide) (by omega)
    have hgr := grown 0 (by omega)
    rw [zeros60] at hr
    simp only [Nat.zero_add, List.nil_append] at hgr ⊢
    have he : (bvals ([] : List Nat)).toArray ++ (bvals (List.replicate 60 0)).toArray = (bvals (List.replicate 60 0)).toArray := by simp [bvals]
    rw [he] at hgr
    exact ⟨_, _, hr, hgr.1, hgr.2⟩
  · by_cases hroom : n + 60 ≤ cap
    · have hone : ∀ u ∈ bvals (List.replicate 60 0), u.oneCell' = true := by intro u hu; obtain ⟨q, _, rfl⟩ := List.mem_map.1 hu; rfl
      have hz60 := zeros60
      generalize bvals (List.replicate 60 0) = Z at *
      have hst := run_storeCells_at Try.prog g n 5 Z 0 cur w hg (by omega) hone
      simp only [Nat.add_zero] at hst
      have hw60 : IntKind.i64.wrap (60 : Int) = 60 := by rw [IntKind.wrap_i64]; rfl
      have hr : (Builtin.append_ #[22, 3] ty #[.slice (some ⟨g, 0, none⟩) n cap, .int .i64 60]).run Try.prog w =
          .ok (.slice (some ⟨g, 0, none⟩) (n + 60) cap) (w.setRow g (cur.toList.take n ++ Z ++ cur.toList.drop (n + Z.length)).toArray) := by
        simp [Builtin.append_, run_underlying Try.underlying22, run_underlying Try.underlying3, sizeOf, typeInfo, zeroValue, hi, hz, hsz, hb, asInt, asIntOf, hw60, hroom, hz60, Addr.add_lit]
        rw [List.append_assoc] at hst
        rw [hst]
        rfl
      refine ⟨_, _, hr, ⟨hlen, .inr ⟨g, cap, _, rfl, hbg, setRow_heap w g cur _ 5 _ hg, hroom, hcm, ?_, ?_⟩⟩, ⟨rfl, rfl, rfl, by simp, fun k hk => setRow_other w g k _ (by omega)⟩⟩
      · simp only [List.size_toArray, List.length_append, List.length_take, List.length_drop, Array.length_toList, h60]
        omega
      · rw [Nat.mul_one] at htake
        rw [htake, ← hb2, ← hlen]
        exact List.take_left
    · have hold : (Builtin.firstCells i.size n (.slice (some ⟨g, 0, none⟩) n cap)).run Try.prog w.drew = .ok (bvals bs).toArray w.drew := by
        rw [hsz]
        exact run_firstCells_some w.drew 1 n ⟨g, 0, none⟩ n cap (bvals bs) hown.1 (by
          intro j u hj
          have := hown.cells (g := g) rfl j u hj
          simpa using this)
      have hr := Lib.run_append_grow_zeros (P := Try.prog) w 22 3 ty 5 i (.int .u8 0) .i64 .i64 Try.underlying22 Try.underlying3 hi hz (some ⟨g, 0, none⟩) n cap (bvals bs) hold 60 (by decide) (by omega) (by omega) (by omega) (by omega)
        (growslice_fits (bytes := i.bytes) (by omega) (by rw [hb]; omega))
      have hgr := grown cap (by omega)
      rw [zeros60] at hr
      exact ⟨_, _, hr, hgr.1, hgr.2⟩

theorem wpList_append_sixty {ops : Array Oper} {rest : List Oper} {o : Oper} {a : Act} {w : World} {Q : Exit → Act → World → Prop} (B : Nat) (v : Value) (n : Nat) (bs : List Nat)
    (hown : w.ownsRow B 5 1 v n (bvals bs)) (hn : n ≤ 1000) (hB : B ≤ w.heap.size)
    (hw : Region.wanted o (yielded ops a.tmps) = true) (s x : Operand)
    (ho : o.op = .call { callee := .builtin .append, args := #[s, x], argTypes := #[22, 3] })
    (hsv : a.eval s = v) (hxv : a.eval x = .int .i64 60)
    (h : ∀ v' w', w'.ownsRow B 5 1 v' (n + 60) (bvals (bs ++ List.replicate 60 0)) → Below B w w' → wpList Try.prog ops Q rest (a.put o.dst v') w') :
    wpList Try.prog ops Q (o :: rest) a w := by
  obtain ⟨v', w', hr, ho', hb⟩ := append_sixty o.type B w v n bs hown hn hB
  exact wpList_append_run hw s x _ _ ho _ _ hsv hxv _ _ hr (h v' w' ho' hb)

end Go.Proofs.Ytfdfknfbnbeloab
