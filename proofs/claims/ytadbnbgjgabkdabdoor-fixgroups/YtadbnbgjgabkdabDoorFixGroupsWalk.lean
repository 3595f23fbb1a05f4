/- The law of groups answers true, in whatever memory where the roots lie as laid. -/
import Derived.Test.YtadbnbgjgabkdabDoorFixE
import Derived.Deep.AppendSrc
namespace Go.Proofs.YtadbnbgjgabkdabDoor
open Go.RowKit

theorem sum_nothing (a : Option Addr) (cap : Nat) (w : World) :
    Calls Tryd.prog 7 #[.slice a 0 cap] w fun e w' => e = .returned (.int .i64 0) ∧ w' = w := by
  go_enter Tryd.func7, Tryd.ntmps7
  go_wp2
  go_loop [3, 5, 8] (fun s _ i => i = .int .i64 0 ∧ s = .int .i64 0) (fun _ _ _ => 0)
  case atStart => exact ⟨rfl, rfl⟩
  case round =>
    obtain ⟨rfl, rfl⟩ := hrel
    go_wp2
    go_ret
    exact ⟨rfl, rfl⟩

/-- 'append' of nothing onto the one number: as it was. -/
theorem append_nothing (more : Int) (a : Option Addr) (cap : Nat) (W : World) :
    (Builtin.append_ #[26, 26] 26 #[.slice (some ⟨W.heap.size, 0, none⟩) 1 1, .slice a 0 cap]).run Tryd.prog (W.alloc (.cells #[.int .i64 more] 2)) =
      .ok (.slice (some ⟨W.heap.size, 0, none⟩) 1 1) (W.alloc (.cells #[.int .i64 more] 2)) := by
  obtain ⟨i, hi, hs⟩ : ∃ i, Tryd.prog.info? 2 = some i ∧ i.size = 1 := by
    have h : (Tryd.prog.info? 2).map (·.size) = some 1 := by kernel_rfl
    obtain ⟨i, h1, h2⟩ := Option.map_eq_some_iff.1 h
    exact ⟨i, h1, h2⟩
  have hsrc : Src Tryd.prog i.size 26 (.slice a 0 cap) 0 [] (W.alloc (.cells #[.int .i64 more] 2)) := by
    cases a with
    | none => exact Src.ofNil _ Tryd.underlying26 cap
    | some x => exact Src.ofSlice _ Tryd.underlying26 x 0 cap [] (by simp) (by simp) (by simp)
  have h := run_append_room_src (P := Tryd.prog) (W.alloc (.cells #[.int .i64 more] 2)) 26 26 26 2 i Tryd.underlying26 hi W.heap.size 0 1 1 (.slice a 0 cap) 0 [] hsrc (Nat.le_refl _) (by simp) (by simp)
  exact h

/-- 'append' of a row onto the one number: a new row. -/
theorem append_row (more : Int) (b off n cap : Nat) (zs : List Int) (W : World) (hl : zs.length = n) (hn : 1 ≤ n) (hn2 : n ≤ 1000) (hb : b < W.heap.size)
    (hc : ∀ i, i < zs.length → W.cell? ⟨b, off + i, none⟩ = some (.int .i64 (zs[i]?.getD 0))) :
    ∃ c cs, (∀ i, i < (more :: zs).length → cs[i]? = some (.int .i64 ((more :: zs)[i]?.getD 0))) ∧
    (Builtin.append_ #[26, 26] 26 #[.slice (some ⟨W.heap.size, 0, none⟩) 1 1, .slice (some ⟨b, off, none⟩) n cap]).run Tryd.prog (W.alloc (.cells #[.int .i64 more] 2)) =
      .ok (.slice (some ⟨W.heap.size + 1, 0, none⟩) (1 + n) c) ((W.alloc (.cells #[.int .i64 more] 2)).drew.alloc (.cells cs 2)) := by
  obtain ⟨i, hi, hs, hby, z, hz⟩ : ∃ i, Tryd.prog.info? 2 = some i ∧ i.size = 1 ∧ i.bytes = 8 ∧ ∃ z, i.zero = some z := by
    have h : (Tryd.prog.info? 2).map (fun i => (i.size, i.bytes, i.zero)) = some (1, 8, some (.int .i64 0)) := by kernel_rfl
    obtain ⟨i, h1, h2⟩ := Option.map_eq_some_iff.1 h
    simp only [Prod.mk.injEq] at h2
    exact ⟨i, h1, h2.1, h2.2.1, _, h2.2.2⟩
  have hsrc : Src Tryd.prog i.size 26 (.slice (some ⟨b, off, none⟩) n cap) n (zs.map fun q => Value.int .i64 q) (W.alloc (.cells #[.int .i64 more] 2)) := by
    refine Src.ofSlice _ Tryd.underlying26 _ n cap _ (by rw [hs]; simp [hl]) ?_ ?_
    · intro j u hu
      have hj : j < zs.length := by
        rcases Nat.lt_or_ge j zs.length with h | h
        · exact h
        · rw [List.getElem?_eq_none (by simpa using h)] at hu; cases hu
      have hx := hc j hj
      rw [List.getElem?_map, List.getElem?_eq_getElem hj] at hu
      rw [List.getElem?_eq_getElem hj] at hx
      simp only [Option.map_some, Option.some.injEq, Option.getD_some] at hu hx
      subst hu
      rw [← hx]
      rw [Addr.add_lit]
      exact World.cell?_alloc_past _ b (off + j) hb
    · intro u hu
      obtain ⟨q, _, rfl⟩ := List.mem_map.1 hu
      rfl
  have hold : (Builtin.firstCells i.size 1 (.slice (some ⟨W.heap.size, 0, none⟩) 1 1)).run Tryd.prog (W.alloc (.cells #[.int .i64 more] 2)).drew = .ok [Value.int .i64 more].toArray (W.alloc (.cells #[.int .i64 more] 2)).drew :=
    run_firstCells_some _ i.size 1 _ 1 1 _ (by rw [hs]; rfl) (fun j u hu => cell_one_new W _ _ j u hu)
  have h := run_append_grow_src (P := Tryd.prog) (W.alloc (.cells #[.int .i64 more] 2)) 26 26 26 2 i z Tryd.underlying26 hi hz (some ⟨W.heap.size, 0, none⟩) 1 1 [.int .i64 more] hold _ n _ hsrc (by omega) (by omega)
    (growslice_fits (by omega) (by rw [hby]; omega))
  have hz1 : (W.alloc (.cells #[.int .i64 more] 2)).heap.size = W.heap.size + 1 := by simp
  rw [hz1] at h
  refine ⟨_, _, ?_, h⟩
  · intro k hk
    simp only [List.length_cons] at hk
    rw [Array.getElem?_append_left (by simp; omega)]
    cases k with
    | zero => rfl
    | succ k => simp [List.getElem?_eq_getElem (show k < zs.length by omega)]

theorem wpList_append_run {ops : Array Oper} {rest : List Oper} {o : Oper} {a : Act} {w : World} {Q : Exit → Act → World → Prop} (hw : Region.wanted o (yielded ops a.tmps) = true) (s x : Operand) (t tx : TypeId)
    (ho : o.op = .call { callee := .builtin .append, args := #[s, x], argTypes := #[t, tx] }) (sv xv : Value) (hs : a.eval s = sv) (hx : a.eval x = xv) (v : Value) (w1 : World)
    (hrun : (Builtin.append_ #[t, tx] o.type #[sv, xv]).run Tryd.prog w = .ok v w1) (h : wpList Tryd.prog ops Q rest (a.put o.dst v) w1) : wpList Tryd.prog ops Q (o :: rest) a w := by
  refine wpList_step fun K hK => ?_
  rw [if_pos hw]
  unfold Oper.wp
  simp [execOp, ho, resolve, invoke, builtin, hs, hx, hrun, Result.andThen]
  exact hK _ _ h

theorem wpList_append_row {ops : Array Oper} {rest : List Oper} {o : Oper} {a : Act} {W : World} {Q : Exit → Act → World → Prop} (more : Int) (b off n cap : Nat) (zs : List Int)
    (hw : Region.wanted o (yielded ops a.tmps) = true) (s x : Operand)
    (ho : o.op = .call { callee := .builtin .append, args := #[s, x], argTypes := #[26, 26] }) (hty : o.type = 26)
    (hs : a.eval s = .slice (some ⟨W.heap.size, 0, none⟩) 1 1) (hx : a.eval x = .slice (some ⟨b, off, none⟩) n cap)
    (hl : zs.length = n) (hn : 1 ≤ n) (hn2 : n ≤ 1000) (hb : b < W.heap.size)
    (hc : ∀ i, i < zs.length → W.cell? ⟨b, off + i, none⟩ = some (.int .i64 (zs[i]?.getD 0)))
    (h : ∀ c cs, (∀ i, i < (more :: zs).length → (cs : Array Value)[i]? = some (.int .i64 ((more :: zs)[i]?.getD 0))) →
      wpList Tryd.prog ops Q rest (a.put o.dst (.slice (some ⟨W.heap.size + 1, 0, none⟩) (1 + n) c)) ((W.alloc (.cells #[.int .i64 more] 2)).drew.alloc (.cells cs 2))) :
    wpList Tryd.prog ops Q (o :: rest) a (W.alloc (.cells #[.int .i64 more] 2)) := by
  obtain ⟨c, cs, hcs, hrun⟩ := append_row more b off n cap zs W hl hn hn2 hb hc
  exact wpList_append_run hw s x _ _ ho _ _ hs hx _ _ (by rw [hty]; exact hrun) (h c cs hcs)

theorem wpList_append_nothing {ops : Array Oper} {rest : List Oper} {o : Oper} {a : Act} {W : World} {Q : Exit → Act → World → Prop} (more : Int) (ad : Option Addr) (cap : Nat)
    (hw : Region.wanted o (yielded ops a.tmps) = true) (s x : Operand)
    (ho : o.op = .call { callee := .builtin .append, args := #[s, x], argTypes := #[26, 26] }) (hty : o.type = 26)
    (hs : a.eval s = .slice (some ⟨W.heap.size, 0, none⟩) 1 1) (hx : a.eval x = .slice ad 0 cap)
    (h : wpList Tryd.prog ops Q rest (a.put o.dst (.slice (some ⟨W.heap.size, 0, none⟩) 1 1)) (W.alloc (.cells #[.int .i64 more] 2))) :
    wpList Tryd.prog ops Q (o :: rest) a (W.alloc (.cells #[.int .i64 more] 2)) :=
  wpList_append_run hw s x _ _ ho _ _ hs hx _ _ (by rw [hty]; exact append_nothing more ad cap W) h

theorem sum_one (more : Int) (W : World) :
    Calls Tryd.prog 7 #[.slice (some ⟨W.heap.size, 0, none⟩) 1 1] (W.alloc (.cells #[.int .i64 more] 2)) fun e w' => e = .returned (.int .i64 (sumI [more])) ∧ w' = W.alloc (.cells #[.int .i64 more] 2) :=
  sum_any [more] W.heap.size 0 _ (by simp) (fun i hi => by
    rw [World.cell?_alloc_new]
    have h : i = 0 := by simpa using hi
    subst h; rfl) 1

theorem sum_row (more : Int) (zs : List Int) (W : World) (cs : Array Value) (c n : Nat) (hl : zs.length = n) (hn : n ≤ 1000) (hcs : ∀ i, i < (more :: zs).length → cs[i]? = some (.int .i64 ((more :: zs)[i]?.getD 0))) :
    Calls Tryd.prog 7 #[.slice (some ⟨W.heap.size + 1, 0, none⟩) (1 + n) c] ((W.alloc (.cells #[.int .i64 more] 2)).drew.alloc (.cells cs 2)) fun e w' => e = .returned (.int .i64 (sumI (more :: zs))) ∧ w' = (W.alloc (.cells #[.int .i64 more] 2)).drew.alloc (.cells cs 2) := by
  have h := sum_any (more :: zs) (W.heap.size + 1) 0 ((W.alloc (.cells #[.int .i64 more] 2)).drew.alloc (.cells cs 2)) (by simp; omega) (fun i hi => by
    rw [World.cell?_alloc_at _ _ _ _ (by simp), Nat.zero_add]
    exact hcs i hi) c
  have e : (more :: zs).length = 1 + n := by rw [List.length_cons]; omega
  rw [e] at h
  exact h

/-- Sums of small numbers are plain sums. -/
def plain (l : List Int) : Int := l.foldl (· + ·) 0
def Small (x : Int) : Prop := -1099511627776 ≤ x ∧ x ≤ 1099511627776

theorem sumStep_plain {s a : Int} (h1 : -36028797018963968 ≤ s) (h2 : s ≤ 36028797018963968) (ha : Small a) : sumStep s a = s + a := by
  unfold Small at ha
  unfold sumStep clampI
  rw [if_neg (by omega), if_neg (by omega), if_neg (by omega), if_neg (by omega), if_neg (by omega), if_neg (by omega)]

theorem fold_plain (l : List Int) : ∀ s : Int, (∀ x ∈ l, Small x) → -(36028797018963968 - 1099511627776 * (l.length : Int)) ≤ s → s ≤ 36028797018963968 - 1099511627776 * (l.length : Int) → l.foldl sumStep s = l.foldl (· + ·) s := by
  induction l with
  | nil => intro s _ _ _; rfl
  | cons x l ih =>
    intro s hx h1 h2
    have hs : Small x := hx x (by simp)
    simp only [List.length_cons, Int.natCast_add, Int.natCast_one] at h1 h2
    have he := sumStep_plain (s := s) (a := x) (by omega) (by omega) hs
    simp only [List.foldl_cons]
    rw [he]
    unfold Small at hs
    exact ih (s + x) (fun y hy => hx y (by simp [hy])) (by omega) (by omega)

theorem foldl_shift (l : List Int) : ∀ s t : Int, l.foldl (· + ·) (s + t) = s + l.foldl (· + ·) t := by
  induction l with
  | nil => intro s t; rfl
  | cons x l ih => intro s t; simp only [List.foldl_cons]; rw [Int.add_assoc, ih]

theorem plain_in (l : List Int) (h : ∀ x ∈ l, Small x) : -(1099511627776 * (l.length : Int)) ≤ plain l ∧ plain l ≤ 1099511627776 * (l.length : Int) := by
  unfold plain
  induction l with
  | nil => simp
  | cons x l ih =>
    have hs : Small x := h x (by simp)
    have hi := ih (fun y hy => h y (by simp [hy]))
    unfold Small at hs
    have e : (x :: l).foldl (· + ·) (0 : Int) = x + l.foldl (· + ·) 0 := by
      simp only [List.foldl_cons]
      rw [Int.add_comm 0 x, foldl_shift]
    rw [e]
    simp only [List.length_cons, Int.natCast_add, Int.natCast_one]
    omega

theorem sumI_plain (l : List Int) (hl : l.length ≤ 1000) (h : ∀ x ∈ l, Small x) : sumI l = plain l :=
  fold_plain l 0 h (by omega) (by omega)

theorem sumI_more (more : Int) (l : List Int) (hl : l.length ≤ 100) (hm : Small more) (h : ∀ x ∈ l, Small x) : sumI (more :: l) = sumI l + more := by
  rw [sumI_plain (more :: l) (by simp; omega) (fun x hx => by rcases List.mem_cons.1 hx with rfl | hx; exact hm; exact h x hx), sumI_plain l (by omega) h]
  unfold plain
  simp only [List.foldl_cons]
  rw [Int.add_comm 0 more, foldl_shift, Int.add_comm]

theorem groups_none (a : Option Addr) (cap : Nat) (more : Int) (w : World) (hr : RootsAt w) :
    Calls Tryd.prog 4 #[.slice a 0 cap, .int .i64 more] w fun e w' => e = .returned (.bool true) ∧ Below w.heap.size w w' := by
  have hm : 1099511627776 < more ∨ (more ≤ 1099511627776 ∧ more < -1099511627776) ∨ (more ≤ 1099511627776 ∧ -1099511627776 ≤ more) := by omega
  rcases hm with h1 | ⟨h1, h2⟩ | ⟨h1, h2⟩
  case' inr.inr =>
    have hs : sumI [more] = more := by
      rw [sumI_more more [] (by decide) ⟨h2, h1⟩ (by simp)]
      exact Int.zero_add _
  all_goals
    go_enter Tryd.func4, Tryd.ntmps4
    go_wp2_with (first
        | (go_at_call 5; refine (awake_any _ hr).mono ?_; rintro e w1 ⟨rfl, hw1⟩)
        | (go_at_call 7; refine (sum_nothing _ _ _).mono ?_; rintro e w' ⟨rfl, rfl⟩))
    go_loop [4, 6, 7] (fun _ s i => s = .int .i64 0 ∧ i = .int .i64 0) (fun _ _ _ => 0)
    case atStart => exact ⟨rfl, rfl⟩
    case round =>
      obtain ⟨rfl, rfl⟩ := hrel
      go_wp2_with (first
        | (at_builtin; refine wpList_append_nothing more a cap rfl _ _ rfl rfl rfl rfl ?_)
        | (go_at_call 7; refine (sum_one _ _).mono ?_; rintro e w' ⟨rfl, rfl⟩))
      go_ret
      exact ⟨rfl, by first | exact hw1.alloc hw1.size _ | exact hw1⟩

theorem small_of {x : Int} (h1 : -1099511627776 ≤ x) (h2 : x ≤ 1099511627776) : Small x := ⟨h1, h2⟩

theorem plain_snoc (l : List Int) (x : Int) : plain (l ++ [x]) = plain l + x := by
  unfold plain; rw [List.foldl_append]; rfl

set_option maxHeartbeats 1000000 in
theorem groups_row (b off n cap : Nat) (zs : List Int) (more : Int) (w : World) (hr : RootsAt w) (hn : 1 ≤ n) (hl : zs.length = n) (hn2 : n ≤ 9223372036854775807)
    (hc : ∀ i, i < zs.length → w.cell? ⟨b, off + i, none⟩ = some (.int .i64 (zs[i]?.getD 0))) (hwf : ∀ i : Nat, -9223372036854775808 ≤ zs[i]?.getD 0 ∧ zs[i]?.getD 0 ≤ 9223372036854775807) :
    Calls Tryd.prog 4 #[.slice (some ⟨b, off, none⟩) n cap, .int .i64 more] w fun e w' => e = .returned (.bool true) ∧ Below w.heap.size w w' := by
  by_cases hlen : 100 < n
  · go_enter Tryd.func4, Tryd.ntmps4
    go_wp2_with (go_at_call 5; refine (awake_any _ hr).mono ?_; rintro e w1 ⟨rfl, hw1⟩)
    go_ret
    exact ⟨rfl, hw1⟩
  · have hb : b < w.heap.size := by
      have h := hc 0 (by omega)
      unfold World.cell? at h
      rcases Nat.lt_or_ge b w.heap.size with hb | hb
      · exact hb
      · rw [Array.getElem?_eq_none hb] at h
        cases h
    have hsi := sumI_in zs
    have hbig : Hid (∀ x ∈ zs, -9223372036854775808 ≤ x ∧ x ≤ 9223372036854775807) := fun x hx => by
      obtain ⟨i, hi, he⟩ := List.getElem_of_mem hx
      have := hwf i
      rw [List.getElem?_eq_getElem hi, he] at this
      exact this
    have HC0 : Hid (∀ i, i < zs.length → w.cell? ⟨b, off + i, none⟩ = some (.int .i64 (zs[i]?.getD 0))) := hc
    clear hc hwf
    go_enter Tryd.func4, Tryd.ntmps4
    go_wp2_with (first
        | (go_at_call 5; refine (awake_any _ hr).mono ?_; rintro e w1 ⟨rfl, hw1⟩; have HC1 : Hid (∀ i, i < zs.length → w1.cell? ⟨b, off + i, none⟩ = some (.int .i64 (zs[i]?.getD 0))) := fun i hi => (hw1.cell (p := ⟨b, off + i, none⟩) hb).trans (HC0.out i hi))
        | (go_at_call 7; rw [← hl]; refine (sum_any zs _ _ _ (by omega) HC1.out _).mono ?_; rintro e w' ⟨rfl, hw2⟩; have hw2 := hw2.symm; subst hw2))
    have hb1 : b < w1.heap.size := Nat.lt_of_lt_of_le hb hw1.size
    go_loop [4, 6, 7] (fun _ s i => ∃ k : Nat, k ≤ zs.length ∧ i = .int .i64 k ∧ s = .int .i64 (plain (zs.take k)) ∧ ∀ x ∈ zs.take k, Small x) (fun _ _ i => zs.length - (intOf i).toNat)
    case atStart => exact ⟨0, Nat.zero_le _, rfl, rfl, by simp⟩
    case round =>
      obtain ⟨k, hk, rfl, rfl, hsm⟩ := hrel
      have hpi := plain_in _ hsm
      have hpl : (zs.take k).length ≤ 100 := by simp; omega
      have HSM : Hid (∀ x ∈ zs.take k, Small x) := hsm
      clear hsm
      by_cases hlt : k < zs.length
      · have hck := HC1.out k hlt
        have HT : Hid (zs.take (k + 1) = zs.take k ++ [zs[k]?.getD 0]) := take_step zs k hlt
        generalize zs[k]?.getD 0 = v at hck HT
        have hv : 1099511627776 < v ∨ (v ≤ 1099511627776 ∧ v < -1099511627776) ∨ (v ≤ 1099511627776 ∧ -1099511627776 ≤ v) := by omega
        rcases hv with h1 | ⟨h1, h2⟩ | ⟨h1, h2⟩
        · go_wp2
          go_ret
          exact ⟨rfl, hw1⟩
        · go_wp2
          go_ret
          exact ⟨rfl, hw1⟩
        · have hp : Hid (plain (zs.take (k + 1)) = plain (zs.take k) + v) := by
            show plain (zs.take (k + 1)) = _
            rw [HT.out, plain_snoc]
          have hq : Hid (∀ x ∈ zs.take (k + 1), Small x) := by
            show ∀ x ∈ zs.take (k + 1), Small x
            rw [HT.out]
            intro x hx
            rcases List.mem_append.1 hx with hx | hx
            · exact HSM.out x hx
            · have e : x = v := by simpa using hx
              rw [e]; exact ⟨h2, h1⟩
          go_wp2
          go_round
          case rel => exact ⟨k + 1, by omega, by go_num, by rw [hp.out], hq.out⟩
          case measure => simp [intOf]; omega
      · have hke : k = zs.length := by omega
        subst hke
        rw [List.take_length] at *
        have hsp := sumI_plain zs (by omega) HSM.out
        have hm : 1099511627776 < more ∨ (more ≤ 1099511627776 ∧ more < -1099511627776) ∨ (more ≤ 1099511627776 ∧ -1099511627776 ≤ more) := by omega
        rcases hm with h1 | ⟨h1, h2⟩ | ⟨h1, h2⟩
        · go_wp2
          go_ret
          exact ⟨rfl, hw1⟩
        · go_wp2
          go_ret
          exact ⟨rfl, hw1⟩
        · have hmo := sumI_more more zs (by omega) ⟨h2, h1⟩ HSM.out
          go_wp2_with (first
            | (at_builtin; go_loud (refine wpList_append_row more b off n cap zs rfl _ _ rfl rfl rfl rfl hl hn (by omega) hb1 HC1.out ?_; intro c cs hcs; have HCS : Hid (∀ i, i < (more :: zs).length → cs[i]? = some (.int .i64 ((more :: zs)[i]?.getD 0))) := hcs; clear hcs))
            | (go_at_call 7; refine (sum_row more zs _ _ _ _ hl (by omega) HCS.out).mono ?_; rintro e w' ⟨rfl, rfl⟩))
          go_ret
          have hw2 := hw1.alloc hw1.size (.cells #[.int .i64 more] 2)
          exact ⟨rfl, (hw2.alloc hw2.size _).drew⟩

theorem fixGroups.walk (a : Option Addr) (len cap : Nat) (z : List Int) (more : Int) (w : World) (w0 : IsRow .i64 w a len cap z) (_w1 : (Lit.int .i64 more).wf = true) (hr : RootsAt w) :
    Calls Tryd.prog 4 #[.slice a len cap, .int .i64 more] w fun e w' => e = .returned (.bool true) ∧ Below w.heap.size w w' := by
  rcases w0 with ⟨rfl, rfl, rfl, _⟩ | ⟨x, rfl, hl, hm, hz, hc, hwf⟩
  · exact groups_none none 0 more w hr
  · by_cases h0 : len = 0
    · subst h0
      exact groups_none (some x) cap more w hr
    · unfold maxLen at hm
      obtain ⟨b, off, rfl, hcc⟩ := ints_at hc (by omega)
      refine groups_row b off len cap (z.take len) more w hr (by omega) (by rw [List.length_take]; omega) (by omega) (fun i hi => ?_) (fun i => ?_)
      · rw [List.length_take] at hi
        rw [hcc i (by omega), List.getElem?_take_of_lt (by omega)]
        simp
      · by_cases hi : i < len
        · rw [List.getElem?_take_of_lt hi, List.getElem?_eq_getElem (show i < z.length by omega)]
          exact bounds_i64 (hwf _ (List.getElem_mem _))
        · rw [List.getElem?_eq_none (by rw [List.length_take]; omega)]
          decide
end Go.Proofs.YtadbnbgjgabkdabDoor
