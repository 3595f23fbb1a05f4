/- The law of all operations answers true, in whatever memory where the roots lie as laid. -/
import Derived.Test.YtadbnbgjgabkdaaDoorFixE
import Derived.Test.YtadbnbgjgabkdaaDoorFixS
import Derived.Deep.AppendSrc
namespace Go.Proofs.YtadbnbgjgabkdaaDoor
open Go.RowKit

theorem sum_nothing (a : Option Addr) (cap : Nat) (w : World) :
    Calls Tryd.prog 16 #[.slice a 0 cap] w fun e w' => e = .returned (.int .i64 0) ∧ w' = w := by
  go_enter Tryd.func16, Tryd.ntmps16
  go_wp2
  go_loop [3, 5, 8] (fun s _ i => i = .int .i64 0 ∧ s = .int .i64 0) (fun _ _ _ => 0)
  case atStart => exact ⟨rfl, rfl⟩
  case round =>
    obtain ⟨rfl, rfl⟩ := hrel
    go_wp2
    go_ret
    exact ⟨rfl, rfl⟩

theorem wpList_append_run {ops : Array Oper} {rest : List Oper} {o : Oper} {a : Act} {w : World} {Q : Exit → Act → World → Prop} (hw : Region.wanted o (yielded ops a.tmps) = true) (s x : Operand) (t tx : TypeId)
    (ho : o.op = .call { callee := .builtin .append, args := #[s, x], argTypes := #[t, tx] }) (sv xv : Value) (hs : a.eval s = sv) (hx : a.eval x = xv) (v : Value) (w1 : World)
    (hrun : (Builtin.append_ #[t, tx] o.type #[sv, xv]).run Tryd.prog w = .ok v w1) (h : wpList Tryd.prog ops Q rest (a.put o.dst v) w1) : wpList Tryd.prog ops Q (o :: rest) a w := by
  refine wpList_step fun K hK => ?_
  rw [if_pos hw]
  unfold Oper.wp
  simp [execOp, ho, resolve, invoke, builtin, hs, hx, hrun, Result.andThen]
  exact hK _ _ h

theorem append_nothing (a : Option Addr) (cap : Nat) (W : World) :
    (Builtin.append_ #[28, 28] 28 #[.slice (some ⟨W.heap.size, 0, none⟩) 0 0, .slice a 0 cap]).run Tryd.prog (W.alloc (.cells #[] 2)) =
      .ok (.slice (some ⟨W.heap.size, 0, none⟩) 0 0) (W.alloc (.cells #[] 2)) := by
  obtain ⟨i, hi, hs⟩ : ∃ i, Tryd.prog.info? 2 = some i ∧ i.size = 1 := by
    have h : (Tryd.prog.info? 2).map (·.size) = some 1 := by kernel_rfl
    obtain ⟨i, h1, h2⟩ := Option.map_eq_some_iff.1 h
    exact ⟨i, h1, h2⟩
  have hsrc : Src Tryd.prog i.size 28 (.slice a 0 cap) 0 [] (W.alloc (.cells #[] 2)) := by
    cases a with
    | none => exact Src.ofNil _ Tryd.underlying28 cap
    | some x => exact Src.ofSlice _ Tryd.underlying28 x 0 cap [] (by simp) (by simp) (by simp)
  exact run_append_room_src (P := Tryd.prog) (W.alloc (.cells #[] 2)) 28 28 28 2 i Tryd.underlying28 hi W.heap.size 0 0 0 (.slice a 0 cap) 0 [] hsrc (Nat.le_refl _) (by simp) (by simp)

/-- 'append' of a row onto nothing: a new row. -/
theorem append_row (b off n cap : Nat) (zs : List Int) (W : World) (hl : zs.length = n) (hn : 1 ≤ n) (hn2 : n ≤ 1000) (hb : b < W.heap.size)
    (hc : ∀ i, i < zs.length → W.cell? ⟨b, off + i, none⟩ = some (.int .i64 (zs[i]?.getD 0))) :
    ∃ c cs, (∀ i, i < zs.length → cs[i]? = some (.int .i64 (zs[i]?.getD 0))) ∧
    (Builtin.append_ #[28, 28] 28 #[.slice (some ⟨W.heap.size, 0, none⟩) 0 0, .slice (some ⟨b, off, none⟩) n cap]).run Tryd.prog (W.alloc (.cells #[] 2)) =
      .ok (.slice (some ⟨W.heap.size + 1, 0, none⟩) n c) ((W.alloc (.cells #[] 2)).drew.alloc (.cells cs 2)) := by
  obtain ⟨i, hi, hs, hby, z, hz⟩ : ∃ i, Tryd.prog.info? 2 = some i ∧ i.size = 1 ∧ i.bytes = 8 ∧ ∃ z, i.zero = some z := by
    have h : (Tryd.prog.info? 2).map (fun i => (i.size, i.bytes, i.zero)) = some (1, 8, some (.int .i64 0)) := by kernel_rfl
    obtain ⟨i, h1, h2⟩ := Option.map_eq_some_iff.1 h
    simp only [Prod.mk.injEq] at h2
    exact ⟨i, h1, h2.1, h2.2.1, _, h2.2.2⟩
  have hsrc : Src Tryd.prog i.size 28 (.slice (some ⟨b, off, none⟩) n cap) n (zs.map fun q => Value.int .i64 q) (W.alloc (.cells #[] 2)) := by
    refine Src.ofSlice _ Tryd.underlying28 _ n cap _ (by rw [hs]; simp [hl]) ?_ ?_
    · intro j u hu
      have hj : j < zs.length := by
        rcases Nat.lt_or_ge j zs.length with h | h
        · exact h
        · rw [List.getElem?_eq_none (by simpa using h)] at hu; cases hu
      have hx := hc j hj
      rw [List.getElem?_map, List.getElem?_eq_getElem hj] at hu
      rw [List.getElem?_eq_getElem hj] at hx
      simp only [Option.map_some, Option.some.injEq, Option.getD_some] at hu hx
      subst hu
      rw [← hx]
      rw [Addr.add_lit]
      exact World.cell?_alloc_past _ b (off + j) hb
    · intro u hu
      obtain ⟨q, _, rfl⟩ := List.mem_map.1 hu
      rfl
  have hold : (Builtin.firstCells i.size 0 (.slice (some ⟨W.heap.size, 0, none⟩) 0 0)).run Tryd.prog (W.alloc (.cells #[] 2)).drew = .ok ([] : List Value).toArray (W.alloc (.cells #[] 2)).drew :=
    run_firstCells_some _ i.size 0 _ 0 0 _ (by simp) (by simp)
  have h := run_append_grow_src (P := Tryd.prog) (W.alloc (.cells #[] 2)) 28 28 28 2 i z Tryd.underlying28 hi hz (some ⟨W.heap.size, 0, none⟩) 0 0 [] hold _ n _ hsrc (by omega) (by omega)
    (growslice_fits (by omega) (by rw [hby]; omega))
  have hz1 : (W.alloc (.cells #[] 2)).heap.size = W.heap.size + 1 := by simp
  rw [hz1, Nat.zero_add] at h
  refine ⟨_, _, ?_, h⟩
  intro k hk
  rw [Array.getElem?_append_left (by simp; omega)]
  simp [List.getElem?_eq_getElem hk]

theorem wpList_append_nothing {ops : Array Oper} {rest : List Oper} {o : Oper} {a : Act} {W : World} {Q : Exit → Act → World → Prop} (ad : Option Addr) (cap : Nat)
    (hw : Region.wanted o (yielded ops a.tmps) = true) (s x : Operand)
    (ho : o.op = .call { callee := .builtin .append, args := #[s, x], argTypes := #[28, 28] }) (hty : o.type = 28)
    (hs : a.eval s = .slice (some ⟨W.heap.size, 0, none⟩) 0 0) (hx : a.eval x = .slice ad 0 cap)
    (h : wpList Tryd.prog ops Q rest (a.put o.dst (.slice (some ⟨W.heap.size, 0, none⟩) 0 0)) (W.alloc (.cells #[] 2))) :
    wpList Tryd.prog ops Q (o :: rest) a (W.alloc (.cells #[] 2)) :=
  wpList_append_run hw s x _ _ ho _ _ hs hx _ _ (by rw [hty]; exact append_nothing ad cap W) h

theorem wpList_append_row {ops : Array Oper} {rest : List Oper} {o : Oper} {a : Act} {W : World} {Q : Exit → Act → World → Prop} (b off n cap : Nat) (zs : List Int)
    (hw : Region.wanted o (yielded ops a.tmps) = true) (s x : Operand)
    (ho : o.op = .call { callee := .builtin .append, args := #[s, x], argTypes := #[28, 28] }) (hty : o.type = 28)
    (hs : a.eval s = .slice (some ⟨W.heap.size, 0, none⟩) 0 0) (hx : a.eval x = .slice (some ⟨b, off, none⟩) n cap)
    (hl : zs.length = n) (hn : 1 ≤ n) (hn2 : n ≤ 1000) (hb : b < W.heap.size)
    (hc : ∀ i, i < zs.length → W.cell? ⟨b, off + i, none⟩ = some (.int .i64 (zs[i]?.getD 0)))
    (h : ∀ c cs, (∀ i, i < zs.length → (cs : Array Value)[i]? = some (.int .i64 (zs[i]?.getD 0))) →
      wpList Tryd.prog ops Q rest (a.put o.dst (.slice (some ⟨W.heap.size + 1, 0, none⟩) n c)) ((W.alloc (.cells #[] 2)).drew.alloc (.cells cs 2))) :
    wpList Tryd.prog ops Q (o :: rest) a (W.alloc (.cells #[] 2)) := by
  obtain ⟨c, cs, hcs, hrun⟩ := append_row b off n cap zs W hl hn hn2 hb hc
  exact wpList_append_run hw s x _ _ ho _ _ hs hx _ _ (by rw [hty]; exact hrun) (h c cs hcs)

theorem sum_row (zs : List Int) (W : World) (cs : Array Value) (c n : Nat) (hl : zs.length = n) (hn : n ≤ 1000) (hcs : ∀ i, i < zs.length → cs[i]? = some (.int .i64 (zs[i]?.getD 0))) :
    Calls Tryd.prog 16 #[.slice (some ⟨W.heap.size + 1, 0, none⟩) n c] ((W.alloc (.cells #[] 2)).drew.alloc (.cells cs 2)) fun e w' => e = .returned (.int .i64 (sumI zs)) ∧ w' = (W.alloc (.cells #[] 2)).drew.alloc (.cells cs 2) := by
  have h := sum_any zs (W.heap.size + 1) 0 ((W.alloc (.cells #[] 2)).drew.alloc (.cells cs 2)) (by omega) (fun i hi => by
    rw [World.cell?_alloc_at _ _ _ _ (by simp), Nat.zero_add]
    exact hcs i hi) c
  rw [hl] at h
  exact h

set_option maxHeartbeats 2000000 in
theorem says_none (a b c s : Int) (l : Option Addr) (cap : Nat) (w : World) (wa : (Lit.int .i64 a).wf = true) (hr : RootsAt w) :
    Calls Tryd.prog 4 #[.int .i64 a, .int .i64 b, .int .i64 c, .int .i64 s, .slice l 0 cap] w fun e w' => e = .returned (.bool true) ∧ Below w.heap.size w w' := by
  have ba := bounds_i64 wa
  clear wa
  have hz := hr.size
  have hb := Below.refl w.heap.size w
  go_enter Tryd.func4, Tryd.ntmps4
  go_wp2_with (first
      | (go_at_call 9; refine (awake_any _ hr).mono ?_; rintro e w1 ⟨rfl, hw1⟩; replace hb := hb.trans (hw1.mono hb.size); clear hw1)
      | (go_at_call 11; refine (mul_any _ _ _ _).mono ?_; rintro e w' ⟨rfl, rfl⟩)
      | (go_at_call 22; refine (rmul_any _ _ _ _).mono ?_; rintro e w' ⟨rfl, rfl⟩)
      | (go_at_call 12; refine (div_any _ _ _ _).mono ?_; rintro e w' ⟨rfl, nd, rfl⟩; replace hb := below_drewN hb nd)
      | (go_at_call 23; refine (rdiv_any _ _ _ _).mono ?_; rintro e w' ⟨rfl, rfl⟩; go_simp; (iterate 11 go_step); show wpList _ _ _ (_ :: _) _ _; refine wpList_append_nothing l cap (by kernel_rfl) _ _ rfl (by kernel_rfl) (by kernel_rfl) (by kernel_rfl) ?_; replace hb := hb.alloc hb.size (.cells #[] 2))
      | (go_at_call 18; refine (clamp_any _ _ _ _).mono ?_; rintro e w' ⟨rfl, rfl⟩)
      | (go_at_call 19; refine (rclamp_any _ _ _ _).mono ?_; rintro e w' ⟨rfl, rfl⟩)
      | (go_at_call 20; refine (sat16_any _ _).mono ?_; rintro e w' ⟨rfl, rfl⟩)
      | (go_at_call 21; refine (rsat16_any _ _).mono ?_; rintro e w' ⟨rfl, rfl⟩)
      | (go_at_call 13; refine (log2_any _ _ ?_).mono ?_; omega; rintro e w' ⟨rfl, rfl⟩)
      | (go_at_call 25; refine (rlog2_any _ _ ?_).mono ?_; omega; rintro e w' ⟨rfl, rfl⟩)
      | (go_at_call 17; refine (exp2_any _ _ ?_).mono ?_; exact hr.below hb hz; rintro e w' ⟨rfl, rfl⟩)
      | (go_at_call 26; refine (rexp2_any _ _).mono ?_; rintro e w1 ⟨rfl, hw1⟩; replace hb := hb.trans (hw1.mono hb.size); clear hw1)
      | (go_at_call 14; refine (sqrt_any _ _ ?_).mono ?_; omega; rintro e w' ⟨rfl, rfl⟩)
      | (go_at_call 27; refine (rsqrt_any _ _ ?_).mono ?_; omega; rintro e w' ⟨rfl, rfl⟩)
      | (go_at_call 15; refine (len_any _ _ ?_).mono ?_; omega; rintro e w' ⟨rfl, rfl⟩)
      | (go_at_call 31; refine (rlen_any _ _ ?_).mono ?_; omega; rintro e w' ⟨rfl, rfl⟩)
      | (go_at_call 10; refine (cos_any _ _).mono ?_; rintro e w1 ⟨rfl, hw1⟩; replace hb := hb.trans (hw1.mono hb.size); clear hw1)
      | (go_at_call 28; refine (rcos_any _ _).mono ?_; rintro e w1 ⟨rfl, hw1⟩; replace hb := hb.trans (hw1.mono hb.size); clear hw1)
      | (go_at_call 29; refine (sin_any _ _).mono ?_; rintro e w1 ⟨rfl, hw1⟩; replace hb := hb.trans (hw1.mono hb.size); clear hw1)
      | (go_at_call 30; refine (rsin_any _ _).mono ?_; rintro e w1 ⟨rfl, hw1⟩; replace hb := hb.trans (hw1.mono hb.size); clear hw1)
      | (go_at_call 16; refine (sum_nothing _ _ _).mono ?_; rintro e w' ⟨rfl, rfl⟩)
      | (go_at_call 24; refine (rsum_nothing _ _ _).mono ?_; rintro e w' ⟨rfl, rfl⟩))
  go_ret
  exact ⟨rfl, hb⟩

set_option maxHeartbeats 2000000 in
theorem says_row (a b c s : Int) (bl off n cap : Nat) (zs : List Int) (w : World) (wa : (Lit.int .i64 a).wf = true) (hr : RootsAt w) (hn : 1 ≤ n) (hl : zs.length = n) (hn2 : n ≤ 9223372036854775807)
    (hc : ∀ i, i < zs.length → w.cell? ⟨bl, off + i, none⟩ = some (.int .i64 (zs[i]?.getD 0))) :
    Calls Tryd.prog 4 #[.int .i64 a, .int .i64 b, .int .i64 c, .int .i64 s, .slice (some ⟨bl, off, none⟩) n cap] w fun e w' => e = .returned (.bool true) ∧ Below w.heap.size w w' := by
  have ba := bounds_i64 wa
  clear wa
  have hz := hr.size
  have hb := Below.refl w.heap.size w
  have hbl : bl < w.heap.size := by
    have h := hc 0 (by omega)
    unfold World.cell? at h
    rcases Nat.lt_or_ge bl w.heap.size with hb | hb
    · exact hb
    · rw [Array.getElem?_eq_none hb] at h
      cases h
  have HC : Hid (∀ W : World, Below w.heap.size w W → ∀ i, i < zs.length → W.cell? ⟨bl, off + i, none⟩ = some (.int .i64 (zs[i]?.getD 0))) :=
    fun W hW i hi => (hW.cell (p := ⟨bl, off + i, none⟩) hbl).trans (hc i hi)
  clear hc
  by_cases hlen : 200 < n
  · go_enter Tryd.func4, Tryd.ntmps4
    go_wp2_with (go_at_call 9; refine (awake_any _ hr).mono ?_; rintro e w1 ⟨rfl, hw1⟩)
    go_ret
    exact ⟨rfl, hw1⟩
  · go_enter Tryd.func4, Tryd.ntmps4
    go_wp2_with (first
        | (go_at_call 9; refine (awake_any _ hr).mono ?_; rintro e w1 ⟨rfl, hw1⟩; replace hb := hb.trans (hw1.mono hb.size); clear hw1)
        | (go_at_call 11; refine (mul_any _ _ _ _).mono ?_; rintro e w' ⟨rfl, rfl⟩)
        | (go_at_call 22; refine (rmul_any _ _ _ _).mono ?_; rintro e w' ⟨rfl, rfl⟩)
        | (go_at_call 12; refine (div_any _ _ _ _).mono ?_; rintro e w' ⟨rfl, nd, rfl⟩; replace hb := below_drewN hb nd)
        | (go_at_call 23; refine (rdiv_any _ _ _ _).mono ?_; rintro e w' ⟨rfl, rfl⟩; go_simp; (iterate 11 go_step); show wpList _ _ _ (_ :: _) _ _; go_loud (refine wpList_append_row bl off n cap zs (by kernel_rfl) _ _ rfl (by kernel_rfl) (by kernel_rfl) (by kernel_rfl) hl hn (by omega) (Nat.lt_of_lt_of_le hbl hb.size) (HC.out _ hb) ?_); intro cc cs hcs; have HCS : Hid (∀ i, i < zs.length → cs[i]? = some (.int .i64 (zs[i]?.getD 0))) := hcs; clear hcs; replace hb := hb.alloc hb.size (.cells #[] 2); replace hb := hb.drew.alloc hb.drew.size (.cells cs 2))
        | (go_at_call 18; refine (clamp_any _ _ _ _).mono ?_; rintro e w' ⟨rfl, rfl⟩)
        | (go_at_call 19; refine (rclamp_any _ _ _ _).mono ?_; rintro e w' ⟨rfl, rfl⟩)
        | (go_at_call 20; refine (sat16_any _ _).mono ?_; rintro e w' ⟨rfl, rfl⟩)
        | (go_at_call 21; refine (rsat16_any _ _).mono ?_; rintro e w' ⟨rfl, rfl⟩)
        | (go_at_call 13; refine (log2_any _ _ ?_).mono ?_; omega; rintro e w' ⟨rfl, rfl⟩)
        | (go_at_call 25; refine (rlog2_any _ _ ?_).mono ?_; omega; rintro e w' ⟨rfl, rfl⟩)
        | (go_at_call 17; refine (exp2_any _ _ ?_).mono ?_; exact hr.below hb hz; rintro e w' ⟨rfl, rfl⟩)
        | (go_at_call 26; refine (rexp2_any _ _).mono ?_; rintro e w1 ⟨rfl, hw1⟩; replace hb := hb.trans (hw1.mono hb.size); clear hw1)
        | (go_at_call 14; refine (sqrt_any _ _ ?_).mono ?_; omega; rintro e w' ⟨rfl, rfl⟩)
        | (go_at_call 27; refine (rsqrt_any _ _ ?_).mono ?_; omega; rintro e w' ⟨rfl, rfl⟩)
        | (go_at_call 15; refine (len_any _ _ ?_).mono ?_; omega; rintro e w' ⟨rfl, rfl⟩)
        | (go_at_call 31; refine (rlen_any _ _ ?_).mono ?_; omega; rintro e w' ⟨rfl, rfl⟩)
        | (go_at_call 10; refine (cos_any _ _).mono ?_; rintro e w1 ⟨rfl, hw1⟩; replace hb := hb.trans (hw1.mono hb.size); clear hw1)
        | (go_at_call 28; refine (rcos_any _ _).mono ?_; rintro e w1 ⟨rfl, hw1⟩; replace hb := hb.trans (hw1.mono hb.size); clear hw1)
        | (go_at_call 29; refine (sin_any _ _).mono ?_; rintro e w1 ⟨rfl, hw1⟩; replace hb := hb.trans (hw1.mono hb.size); clear hw1)
        | (go_at_call 30; refine (rsin_any _ _).mono ?_; rintro e w1 ⟨rfl, hw1⟩; replace hb := hb.trans (hw1.mono hb.size); clear hw1)
        | (go_at_call 16; refine (sum_row zs _ _ _ _ hl (by omega) HCS.out).mono ?_; rintro e w' ⟨rfl, rfl⟩)
        | (go_at_call 24; rw [← hl]; refine (rsum_any zs _ _ _ (by omega) ?_ _).mono ?_; exact HC.out _ hb; rintro e w' ⟨rfl, rfl⟩))
    go_ret
    exact ⟨rfl, hb⟩

theorem fixSays.walk (a b c s : Int) (l : Option Addr) (len cap : Nat) (z : List Int) (w : World) (wa : (Lit.int .i64 a).wf = true) (_wb : (Lit.int .i64 b).wf = true) (_wc : (Lit.int .i64 c).wf = true) (_ws : (Lit.int .i64 s).wf = true)
    (w0 : IsRow .i64 w l len cap z) (hr : RootsAt w) :
    Calls Tryd.prog 4 #[.int .i64 a, .int .i64 b, .int .i64 c, .int .i64 s, .slice l len cap] w fun e w' => e = .returned (.bool true) ∧ Below w.heap.size w w' := by
  rcases w0 with ⟨rfl, rfl, rfl, _⟩ | ⟨x, rfl, hl, hm, hz, hc, hwf⟩
  · exact says_none a b c s none 0 w wa hr
  · by_cases h0 : len = 0
    · subst h0
      exact says_none a b c s (some x) cap w wa hr
    · unfold maxLen at hm
      obtain ⟨bl, off, rfl, hcc⟩ := ints_at hc (by omega)
      refine says_row a b c s bl off len cap (z.take len) w wa hr (by omega) (by rw [List.length_take]; omega) (by omega) (fun i hi => ?_)
      rw [List.length_take] at hi
      rw [hcc i (by omega), List.getElem?_take_of_lt (by omega)]
      simp

end Go.Proofs.YtadbnbgjgabkdaaDoor
