/- Two voices compared. -/
import Derived.Test.YtbnkapeahbegaaaSynF
import Derived.Laws.StructEq
import Derived.BigQuiet
import Derived.Test.YtbnkapeahbegaaaLastOp
namespace Go.Proofs.Ytbnkapeahbegaaa
open Go.RowKit

theorem all_range_ints : ∀ (xs ys : List Int), xs.length = ys.length → ((List.range xs.length).all fun i => xs.getD i 0 == ys.getD i 0) = decide (xs = ys)
  | [], [], _ => rfl
  | x :: xs, y :: ys, h => by
    have ih := all_range_ints xs ys (by simpa using h)
    rw [List.length_cons, List.range_succ_eq_map, List.all_cons, List.all_map]
    simp only [List.getD_cons_zero, Function.comp_def, List.getD_cons_succ, ih]
    by_cases e : x = y <;> simp [e]
  | [], _ :: _, h => by simp at h
  | _ :: _, [], h => by simp at h

theorem run_equalIn_ints {P : Program} (w : World) (d : Nat) (t e : TypeId) (n : Nat) (ht : P.underlying t = some (.array n e)) (he : P.underlying e = some (.int .i64)) (hsz : ∀ w, (sizeOf e).run P w = .ok 1 w) (xs ys : List Int) (hx : xs.length = n) (hy : ys.length = n) :
    (Op.equalIn (d + 2) t (.agg (arrV xs)) (.agg (arrV ys))).run P w = .ok (decide (xs = ys)) w := by
  rw [← all_range_ints xs ys (hx.trans hy.symm), hx, List.range_eq_range', Op.equalIn]
  simp only [Sem.run_bind, run_underlying ht, Result.andThen_ok, hsz, Std.Legacy.Range.forIn_eq_forIn_range', Std.Legacy.Range.size, Nat.sub_zero, Nat.add_sub_cancel, Nat.div_one]
  have hl : ∀ i ∈ List.range' 0 n 1, i < n := fun i hi => by simpa using (List.mem_range'_1.1 hi).2
  generalize List.range' 0 n 1 = l at hl ⊢
  induction l with
  | nil => simp
  | cons i l ih =>
    have hi : i < n := hl i (by simp)
    have px : (part e (arrV xs) (i * 1)).run P w = .ok (.int .i64 (xs.getD i 0)) w := by
      simp [part, isAgg, run_underlying he, List.getD, arrV, List.getElem?_eq_getElem (show i < xs.length by omega)]
    have py : (part e (arrV ys) (i * 1)).run P w = .ok (.int .i64 (ys.getD i 0)) w := by
      simp [part, isAgg, run_underlying he, List.getD, arrV, List.getElem?_eq_getElem (show i < ys.length by omega)]
    have pe : (Op.equalIn (d + 1) e (.int .i64 (xs.getD i 0)) (.int .i64 (ys.getD i 0))).run P w = .ok (xs.getD i 0 == ys.getD i 0) w := run_equalIn_int w d e .i64 .i64 _ _ he
    simp only [List.forIn_cons, Sem.run_bind, px, py, pe, Result.andThen_ok, List.all_cons]
    cases hb : (xs.getD i 0 == ys.getD i 0)
    · simp
    · simp only [Bool.not_true, Bool.false_eq_true, if_false, Sem.run_pure, Result.andThen_ok, Bool.true_and]
      exact ih fun j hj => hl j (by simp [hj])

theorem part_ints {P : Program} (w : World) {t e : TypeId} {n : Nat} (ht : P.underlying t = some (.array n e)) (hs : ∀ w, (sizeOf t).run P w = .ok n w) (zs : List Int) (o : Nat) : (part t (arrV zs) o).run P w = .ok (.agg (arrV ((zs.drop o).take n))) w := by
  have e : (arrV zs).extract o (o + n) = arrV ((zs.drop o).take n) := by
    unfold arrV
    simp [List.map_take, List.map_drop]
  simp [part, isAgg, run_underlying ht, hs, e]

theorem size_of_info {P : Program} {t : TypeId} {n : Nat} (h : (P.info? t).map (·.size) = some n) (w : World) : (sizeOf t).run P w = .ok n w := by
  obtain ⟨i, hi, rfl⟩ := Option.map_eq_some_iff.1 h
  simp [sizeOf, typeInfo, hi]

/-- Two fields, each an array of numbers. -/
theorem run_eqFields_two {P : Program} (d : Nat) (f0 f1 : Field) (A B A' B' : List Int) (w : World) {e : TypeId} {n m : Nat} (n0 : f0.name ≠ "_") (n1 : f1.name ≠ "_") (o0 : f0.offset = 0) (o1 : f1.offset = n)
    (h0 : P.underlying f0.type = some (.array n e)) (h1 : P.underlying f1.type = some (.array m e)) (he : P.underlying e = some (.int .i64)) (z0 : ∀ w, (sizeOf f0.type).run P w = .ok n w) (z1 : ∀ w, (sizeOf f1.type).run P w = .ok m w) (ze : ∀ w, (sizeOf e).run P w = .ok 1 w)
    (hA : A.length = n) (hB : B.length = m) (hA' : A'.length = n) (hB' : B'.length = m) :
    (Op.eqFields (d + 2) (arrV (A ++ B)) (arrV (A' ++ B')) [f0, f1]).run P w = .ok (decide (A = A' ∧ B = B')) w := by
  have q1 := part_ints w h0 z0 (A ++ B) 0
  have q2 := part_ints w h0 z0 (A' ++ B') 0
  have q3 := part_ints w h1 z1 (A ++ B) n
  have q4 := part_ints w h1 z1 (A' ++ B') n
  rw [List.drop_zero, List.take_left' hA] at q1
  rw [List.drop_zero, List.take_left' hA'] at q2
  rw [List.drop_left' hA, List.take_of_length_le (by omega)] at q3
  rw [List.drop_left' hA', List.take_of_length_le (by omega)] at q4
  have r1 := run_equalIn_ints w d _ _ n h0 he ze A A' hA hA'
  have r2 := run_equalIn_ints w d _ _ m h1 he ze B B' hB hB'
  unfold Op.eqFields
  rw [if_pos n0, o0]
  simp only [Sem.run_bind, q1, q2, Result.andThen_ok, r1]
  by_cases e1 : A = A'
  · rw [decide_eq_true e1, if_neg (by decide)]
    unfold Op.eqFields
    rw [if_pos n1, o1]
    simp only [Sem.run_bind, q3, q4, Result.andThen_ok, r2]
    by_cases e2 : B = B'
    · rw [decide_eq_true e2, if_neg (by decide), decide_eq_true ⟨e1, e2⟩]
      rfl
    · rw [decide_eq_false e2, if_pos (by decide), decide_eq_false (fun h => e2 h.2)]
      rfl
  · rw [decide_eq_false e1, if_pos (by decide), decide_eq_false (fun h => e1 h.1)]
    rfl

theorem size_driven : (Try.prog.info? 43).map (·.size) = some 320 := by kernel_rfl
theorem size_out : (Try.prog.info? 44).map (·.size) = some 32 := by kernel_rfl
theorem size_number : (Try.prog.info? 2).map (·.size) = some 1 := by kernel_rfl

theorem voice_fields : (Try.prog.fieldsOf 46).toList.map (fun f => (f.name != "_", f.type, f.offset)) = [(true, 43, 0), (true, 44, 320)] := by kernel_rfl
theorem voice_struct : Try.prog.underlying 46 = some (.struct (Try.prog.fieldsOf 46)) := by kernel_rfl
theorem run_equal_voice (d : Nat) (D E D' E' : List Int) (w : World) (h1 : D.length = 320) (h2 : E.length = 32) (h3 : D'.length = 320) (h4 : E'.length = 32) :
    (Op.equalIn (d + 2 + 1) 46 (.agg (arrV (D ++ E))) (.agg (arrV (D' ++ E')))).run Try.prog w = .ok (decide (D = D' ∧ E = E')) w := by
  have hf := voice_fields
  rw [run_equalIn_struct w (d + 2) _ _ _ voice_struct Try.stoodInHeld46]
  generalize (Try.prog.fieldsOf 46).toList = fs at hf ⊢
  obtain ⟨f0, f1, rfl⟩ : ∃ f0 f1, fs = [f0, f1] := by
    have hl : fs.length = 2 := by
      have := congrArg List.length hf
      rw [List.length_map] at this
      exact this
    match fs, hl with
    | [f0, f1], _ => exact ⟨f0, f1, rfl⟩
  simp only [List.map_cons, List.map_nil, List.cons.injEq, Prod.mk.injEq, and_true, bne_iff_ne] at hf
  obtain ⟨⟨n0, t0, o0⟩, n1, t1, o1⟩ := hf
  have b0 : Try.prog.underlying f0.type = some (.array 320 2) := by rw [t0]; exact Try.underlying43
  have b1 : Try.prog.underlying f1.type = some (.array 32 2) := by rw [t1]; exact Try.underlying44
  have c0 : ∀ w, (sizeOf f0.type).run Try.prog w = .ok 320 w := by rw [t0]; exact size_of_info size_driven
  have c1 : ∀ w, (sizeOf f1.type).run Try.prog w = .ok 32 w := by rw [t1]; exact size_of_info size_out
  exact run_eqFields_two d f0 f1 D E D' E' w n0 n1 o0 o1 b0 b1 Try.underlying2 c0 c1 (size_of_info size_number) h1 h2 h3 h4

set_option maxRecDepth 100000 in
theorem same_any2 (p q : Nat) (D E D' E' : List Int) (w : World) (hv : Vo p D E w) (hu : Vo q D' E' w) : Calls Try.prog 12 #[.pointer (some ⟨p, 0, none⟩), .pointer (some ⟨q, 0, none⟩)] w fun e w' => e = .returned (.bool (decide (D = D' ∧ E = E'))) ∧ ∃ n, w' = w.drewN n := by
  have hq := run_equal_voice 9997 D E D' E'
  have hm := Try.eqGuardType46
  obtain ⟨G, hG⟩ : ∃ G, decide (D = D' ∧ E = E') = G := ⟨_, rfl⟩
  have l1 : ∀ W : World, W.heap = w.heap → (Instr.loadAt 46 (.pointer (some ⟨p, 0, none⟩))).run Try.prog W = .ok (.agg (arrV (D ++ E))) W := fun W h => by
    obtain ⟨t, ht⟩ := hv.arr
    simp only [Instr.loadAt, Instr.sureAddr, Sem.run_bind, Sem.run_pure, Result.andThen_ok]
    rw [← h] at ht
    rw [run_loadVar_row W p t _ _ (0, 0) _ ht Try.underlying46 rfl (by rw [arrV_size, hv.len]; exact size_voice)]
  have l2 : ∀ W : World, W.heap = w.heap → (Instr.loadAt 46 (.pointer (some ⟨q, 0, none⟩))).run Try.prog W = .ok (.agg (arrV (D' ++ E'))) W := fun W h => by
    obtain ⟨t, ht⟩ := hu.arr
    simp only [Instr.loadAt, Instr.sureAddr, Sem.run_bind, Sem.run_pure, Result.andThen_ok]
    rw [← h] at ht
    rw [run_loadVar_row W q t _ _ (0, 0) _ ht Try.underlying46 rfl (by rw [arrV_size, hu.len]; exact size_voice)]
  rw [hG]
  have HQ : Hid (∀ W, (binOp .eql 46 (.agg (arrV (D ++ E))) (.agg (arrV (D' ++ E')))).run Try.prog W = .ok (.bool G) W) := fun W => by
    rw [run_eql_struct, hq W hv.dl hv.el hu.dl hu.el, hG]
    rfl
  have HG : Hid (∀ X Y x y W, (eqGuard .eql 46 x y (.agg X) (.agg Y)).run Try.prog W = .ok () W) := fun X Y x y W => run_eqGuard_agg W .eql 46 x y X Y hm
  clear hq hG hv hu hm
  generalize arrV (D ++ E) = X at *
  generalize arrV (D' ++ E') = Y at *
  have L1 : Hid (∀ W, (∃ n, W = w.drewN n) → (Instr.loadAt 46 (.pointer (some ⟨p, 0, none⟩))).run Try.prog W = .ok (.agg X) W) := fun W ⟨n, h⟩ => l1 W (by rw [h]; rfl)
  have L2 : Hid (∀ W, (∃ n, W = w.drewN n) → (Instr.loadAt 46 (.pointer (some ⟨q, 0, none⟩))).run Try.prog W = .ok (.agg Y) W) := fun W ⟨n, h⟩ => l2 W (by rw [h]; rfl)
  clear l1 l2
  go_enter Try.func12, Try.ntmps12
  go_wp2
  refine wp_region_quiet_lit (by kernel_rfl) (by kernel_rfl) ?_
  quiet_step (fail)
  quiet_step (fail)
  refine wpQuiet_load 46 ⟨p, 0, none⟩ (.agg X) L1.out rfl _ rfl rfl ?_
  quiet_step (fail)
  quiet_step (fail)
  refine wpQuiet_load 46 ⟨q, 0, none⟩ (.agg Y) L2.out rfl _ rfl rfl ?_
  refine wpQuiet_pure (.bool G) (fun W => ?_) rfl ?_
  · show (((eqGuard .eql 46 _ _ (.agg X) (.agg Y) >>= fun _ => binOp .eql 46 (.agg X) (.agg Y)) >>= fun v => pure (Next.value v))).run Try.prog W = _
    simp only [Sem.run_bind, HG.out, HQ.out, Result.andThen_ok, Sem.run_pure]
  quiet_step (fail)
  refine wpQuiet_nil ?_
  rintro _ ⟨nq, rfl⟩
  go_wp2
  go_ret
  exact ⟨rfl, _, rfl⟩

end Go.Proofs.Ytbnkapeahbegaaa
