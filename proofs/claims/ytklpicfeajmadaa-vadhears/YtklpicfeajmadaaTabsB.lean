/- Lists of whole numbers that a call makes: appended to, made at once, copied. What the plain calls of package tabs with lists come to: edges, bins, frequencies. -/
import Derived.Test.YtklpicfeajmadaaTabsA
import Derived.Deep.OwnRows
import Derived.OwnWalk
namespace Go.Proofs.Ytklpicfeajmadaa
open Go.RowKit

theorem info_int64 : (Try.prog.info? 2).map (fun i => (i.zero, i.size, i.bytes)) = some (some (.int .i64 0), 1, 8) := by kernel_rfl
theorem info_int : (Try.prog.info? 3).map (fun i => (i.zero, i.size, i.bytes)) = some (some (.int .i64 0), 1, 8) := by kernel_rfl

theorem NewRow.of_owned {e : TypeId} {B : Nat} {w : World} {v : Value} {n : Nat} {zs : List Int} (h : w.ownsRow B e 1 v n (zs.map (Value.int .i64))) :
    zs.length = n ∧ ∃ a cap, v = .slice a n cap ∧ NewRow e B w a zs := by
  obtain ⟨hl, h⟩ := h
  simp only [List.length_map, Nat.mul_one] at hl
  refine ⟨hl, ?_⟩
  rcases h with ⟨rfl, rfl⟩ | ⟨g, cap, cur, rfl, hg, hh, hnc, hcm, hcs, ht⟩
  · exact ⟨_, _, rfl, .inl (List.eq_nil_of_length_eq_zero hl)⟩
  · refine ⟨_, _, rfl, .inr ⟨g, cur, rfl, hg, hh, fun i hi => ?_⟩⟩
    have h1 : (cur.toList.take (n * 1))[i]? = some (.int .i64 (zs[i]?.getD 0)) := by
      rw [ht, List.getElem?_map, List.getElem?_eq_getElem hi]; rfl
    rw [Nat.mul_one, List.getElem?_take_of_lt (by omega)] at h1
    simpa using h1

/-- 'append' of one number onto a list that the call has made. -/
theorem append_one {t e : TypeId} (ht : Try.prog.underlying t = some (.slice e)) (hinfo : (Try.prog.info? e).map (fun i => (i.zero, i.size, i.bytes)) = some (some (.int .i64 0), 1, 8)) (ty : TypeId)
    (B : Nat) (w : World) (v : Value) (n : Nat) (zs : List Int) (y : Int) (hown : w.ownsRow B e 1 v n (zs.map (Value.int .i64))) (hn : n ≤ 1000000) (hB : B ≤ w.heap.size) :
    ∃ v' w', (Builtin.append_ #[t, t] ty #[v, .slice (some ⟨w.heap.size, 0, none⟩) 1 1]).run Try.prog (w.alloc (.cells #[.int .i64 y] e)) = .ok v' w' ∧
      w'.ownsRow B e 1 v' (n + 1) ((zs ++ [y]).map (Value.int .i64)) ∧ Below B w w' := by
  obtain ⟨i, hi, hzz⟩ := Option.map_eq_some_iff.1 hinfo
  simp only [Prod.mk.injEq] at hzz
  obtain ⟨hz, hs, hb⟩ := hzz
  obtain ⟨v', w', hr, ho, hg, _⟩ := run_append_own (P := Try.prog) (w.alloc (.cells #[.int .i64 y] e)) B t ty e i (.int .i64 0) 1 8 ht hi hz hs hb rfl (by decide) v n _ (hown.alloc _) ⟨w.heap.size, 0, none⟩ 1 1 [.int .i64 y] rfl
    (by
      intro j u hj
      match j, hj with
      | 0, hj =>
        simp at hj; subst hj
        show (w.alloc _).cell? ⟨w.heap.size, 0, none⟩ = _
        rw [World.cell?_alloc_new]; rfl)
    (by intro u hu; simp at hu; subst hu; rfl) (by unfold maxLen; omega) (by omega) (by simp; omega)
  refine ⟨v', w', hr, by simpa using ho, ((Below.refl B w).alloc hB _).grown hg (by simp; omega) (fun k hk => (hown.lt k hk).1)⟩

theorem wpList_append_run {ops : Array Oper} {rest : List Oper} {o : Oper} {a : Act} {w : World} {Q : Exit → Act → World → Prop} (hw : Region.wanted o (yielded ops a.tmps) = true) (s x : Operand) (t tx : TypeId)
    (ho : o.op = .call { callee := .builtin .append, args := #[s, x], argTypes := #[t, tx] }) (sv xv : Value) (hs : a.eval s = sv) (hx : a.eval x = xv) (v : Value) (w1 : World)
    (hrun : (Builtin.append_ #[t, tx] o.type #[sv, xv]).run Try.prog w = .ok v w1) (h : wpList Try.prog ops Q rest (a.put o.dst v) w1) : wpList Try.prog ops Q (o :: rest) a w := by
  refine wpList_step fun K hK => ?_
  rw [if_pos hw]
  unfold Oper.wp
  simp [execOp, ho, resolve, invoke, builtin, hs, hx, hrun, Result.andThen]
  exact hK _ _ h

theorem wpList_append_one {ops : Array Oper} {rest : List Oper} {o : Oper} {a : Act} {w : World} {Q : Exit → Act → World → Prop} (t e : TypeId) (ht : Try.prog.underlying t = some (.slice e))
    (hinfo : (Try.prog.info? e).map (fun i => (i.zero, i.size, i.bytes)) = some (some (.int .i64 0), 1, 8)) (B : Nat) (v : Value) (n : Nat) (zs : List Int) (y : Int)
    (hown : w.ownsRow B e 1 v n (zs.map (Value.int .i64))) (hn : n ≤ 1000000) (hB : B ≤ w.heap.size)
    (hw : Region.wanted o (yielded ops a.tmps) = true) (s x : Operand)
    (ho : o.op = .call { callee := .builtin .append, args := #[s, x], argTypes := #[t, t] })
    (hs : a.eval s = v) (hx : a.eval x = .slice (some ⟨w.heap.size, 0, none⟩) 1 1)
    (h : ∀ v' w', w'.ownsRow B e 1 v' (n + 1) ((zs ++ [y]).map (Value.int .i64)) → Below B w w' → wpList Try.prog ops Q rest (a.put o.dst v') w') :
    wpList Try.prog ops Q (o :: rest) a (w.alloc (.cells #[.int .i64 y] e)) := by
  obtain ⟨v', w', hr, ho', hb⟩ := append_one ht hinfo o.type B w v n zs y hown hn hB
  exact wpList_append_run hw s x _ _ ho _ _ hs hx _ _ hr (h v' w' ho' hb)

/-- 'append([]T{}, l...)': a copy. -/
theorem append_copy {t e : TypeId} (ht : Try.prog.underlying t = some (.slice e)) (hinfo : (Try.prog.info? e).map (fun i => (i.zero, i.size, i.bytes)) = some (some (.int .i64 0), 1, 8)) (ty : TypeId)
    (w : World) (x : Addr) (n cap : Nat) (zs : List Int) (hl : zs.length = n) (hn : n * 8 ≤ 140737488355328) (hc : ∀ i, i < n → w.cell? (x.add i) = some (.int .i64 (zs[i]?.getD 0))) :
    ∃ a c w', (Builtin.append_ #[t, t] ty #[.slice (some ⟨w.heap.size, 0, none⟩) 0 0, .slice (some x) n cap]).run Try.prog (w.alloc (.cells #[] e)) = .ok (.slice a n c) w' ∧
      NewRow e w.heap.size w' a zs ∧ Below w.heap.size w w' := by
  obtain ⟨i, hi, hzz⟩ := Option.map_eq_some_iff.1 hinfo
  simp only [Prod.mk.injEq] at hzz
  obtain ⟨hz, hs, hb⟩ := hzz
  have hown : (w.alloc (.cells #[] e)).ownsRow w.heap.size e 1 (.slice (some ⟨w.heap.size, 0, none⟩) 0 0) 0 [] := World.ownsRow_made w #[] 0 (Nat.le_refl _) (by decide) rfl
  obtain ⟨v', w', hr, ho, hg, _⟩ := run_append_own (P := Try.prog) (w.alloc (.cells #[] e)) w.heap.size t ty e i (.int .i64 0) 1 8 ht hi hz hs hb rfl (by decide) _ 0 _ hown x n cap (zs.map (Value.int .i64)) (by simp [hl])
    (by
      intro j u hj
      have hjn : j < zs.length := by
        rcases Nat.lt_or_ge j zs.length with h | h
        · exact h
        · rw [List.getElem?_eq_none (by simpa using h)] at hj; cases hj
      have h1 := hc j (by omega)
      rw [List.getElem?_map, List.getElem?_eq_getElem hjn] at hj
      rw [List.getElem?_eq_getElem hjn] at h1
      simp only [Option.map_some, Option.some.injEq, Option.getD_some] at hj h1
      subst hj
      rw [← h1]
      exact World.cell?_of_block (Below.heap_alloc w _ _ (World.block_lt_of_cell? w _ h1)))
    (by intro u hu; obtain ⟨q, _, rfl⟩ := List.mem_map.1 hu; rfl) (by unfold maxLen; omega) (by omega) (by simp)
  rw [Nat.zero_add, List.nil_append] at ho
  obtain ⟨_, a, c, rfl, hnew⟩ := NewRow.of_owned ho
  exact ⟨a, c, w', hr, hnew, ((Below.refl _ w).alloc (Nat.le_refl _) _).grown hg (by simp) (fun k hk => by simp [Value.ownBlock] at hk; omega)⟩

theorem append_copy_nil {t e : TypeId} (ht : Try.prog.underlying t = some (.slice e)) (hinfo : (Try.prog.info? e).map (fun i => (i.zero, i.size, i.bytes)) = some (some (.int .i64 0), 1, 8)) (ty : TypeId)
    (w : World) (cap : Nat) :
    (Builtin.append_ #[t, t] ty #[.slice (some ⟨w.heap.size, 0, none⟩) 0 0, .slice none 0 cap]).run Try.prog (w.alloc (.cells #[] e)) = .ok (.slice (some ⟨w.heap.size, 0, none⟩) 0 0) (w.alloc (.cells #[] e)) := by
  obtain ⟨i, hi, _⟩ := Option.map_eq_some_iff.1 hinfo
  exact run_append_room_src (P := Try.prog) (w.alloc (.cells #[] e)) t t ty e i ht hi w.heap.size 0 0 0 (.slice none 0 cap) 0 [] (Src.ofNil _ ht cap) (Nat.le_refl _) (by simp) (by simp)

theorem wpList_append_copy {ops : Array Oper} {rest : List Oper} {o : Oper} {a : Act} {w : World} {Q : Exit → Act → World → Prop} (t e : TypeId) (ht : Try.prog.underlying t = some (.slice e))
    (hinfo : (Try.prog.info? e).map (fun i => (i.zero, i.size, i.bytes)) = some (some (.int .i64 0), 1, 8)) (xo : Option Addr) (n cap : Nat) (zs : List Int)
    (hl : zs.length = n) (hn : n * 8 ≤ 140737488355328) (hc : 0 < n → ∃ x, xo = some x ∧ ∀ i, i < n → w.cell? (x.add i) = some (.int .i64 (zs[i]?.getD 0)))
    (hw : Region.wanted o (yielded ops a.tmps) = true) (s x : Operand)
    (ho : o.op = .call { callee := .builtin .append, args := #[s, x], argTypes := #[t, t] })
    (hs : a.eval s = .slice (some ⟨w.heap.size, 0, none⟩) 0 0) (hx : a.eval x = .slice xo n cap)
    (h : ∀ r c w', NewRow e w.heap.size w' r zs → Below w.heap.size w w' → wpList Try.prog ops Q rest (a.put o.dst (.slice r n c)) w') :
    wpList Try.prog ops Q (o :: rest) a (w.alloc (.cells #[] e)) := by
  have hall : ∃ r c w', (Builtin.append_ #[t, t] o.type #[.slice (some ⟨w.heap.size, 0, none⟩) 0 0, .slice xo n cap]).run Try.prog (w.alloc (.cells #[] e)) = .ok (.slice r n c) w' ∧
      NewRow e w.heap.size w' r zs ∧ Below w.heap.size w w' := by
    cases xo with
    | none =>
      have h0 : n = 0 := by
        rcases Nat.eq_zero_or_pos n with h0 | h0
        · exact h0
        · obtain ⟨_, hx', _⟩ := hc h0; cases hx'
      subst h0
      exact ⟨_, _, _, append_copy_nil ht hinfo o.type w cap, .inl (List.eq_nil_of_length_eq_zero hl), (Below.refl _ _).alloc (Nat.le_refl _) _⟩
    | some x =>
      refine append_copy ht hinfo o.type w x n cap zs hl hn (fun i hi => ?_)
      obtain ⟨x', hx', hcc⟩ := hc (by omega)
      cases hx'
      exact hcc i hi
  obtain ⟨r, c, w', hr, hnew, hb⟩ := hall
  exact wpList_append_run hw s x _ _ ho _ _ hs hx _ _ hr (h r c w' hnew hb)

/-- What make and the stores behind it leave. -/
theorem NewRow.of_rowIs {e : TypeId} {B : Nat} {w : World} {b n : Nat} {f : Nat → Value} {zs : List Int} (h : w.rowIs b e n f) (hB : B ≤ b) (hl : zs.length = n) (hf : ∀ i, i < n → f i = .int .i64 (zs[i]?.getD 0)) :
    NewRow e B w (some ⟨b, 0, .none⟩) zs := by
  obtain ⟨c, hb, hn, hc⟩ := h
  exact .inr ⟨b, c, rfl, hB, hb, fun i hi => by rw [hc i (by omega), hf i (by omega)]⟩

/-! ### Edges -/
def edgesL : List Int := [0, 1, 2, 3, 4, 5, 6, 7, 8, 10, 12, 14, 16, 20, 24, 28, 34, 40, 48, 60]

theorem edgesN_le (rate : Int) : edgesN rate ≤ 20 := by
  unfold edgesN
  split
  · decide
  · split
    · decide
    · split <;> decide

theorem edges_take (n : Nat) (_hn : n ≤ 20) (i : Nat) (hi : i < n) : (edgesL.take n)[i]?.getD 0 = edgesL[i]?.getD 0 := by
  rw [List.getElem?_take_of_lt hi]

def edgesOfL (rate : Int) : List Int := edgesL.take (edgesN rate)

theorem edgesOfL_len (rate : Int) : (edgesOfL rate).length = edgesN rate := by
  unfold edgesOfL
  rw [List.length_take]
  have := edgesN_le rate
  have h : edgesL.length = 20 := rfl
  omega

end Go.Proofs.Ytklpicfeajmadaa
