/- Frames, truth values in memory, literals: what the laws of chapter 13 share. -/
import Derived.Test.YtklpicfeajmadaaVadB
import Derived.Test.YtklpicfeajmadaaGrid
import Derived.Deep.AppendLies
import Derived.Laws.OwnMore
namespace Go.Proofs.Ytklpicfeajmadaa
open Go.RowKit
namespace Vad

/-- Nothing that was there has turned, but the block p. -/
structure Off (p : Nat) (w w' : World) : Prop where
  os : w'.os = w.os
  tape : w'.tape = w.tape
  output : w'.output = w.output
  size : w.heap.size ≤ w'.heap.size
  block : ∀ k, k ≠ p → k < w.heap.size → w'.heap[k]? = w.heap[k]?
theorem Off.refl (p : Nat) (w : World) : Off p w w := ⟨rfl, rfl, rfl, Nat.le_refl _, fun _ _ _ => rfl⟩
theorem Off.trans {p : Nat} {a b c : World} (h : Off p a b) (k : Off p b c) : Off p a c :=
  ⟨k.os.trans h.os, k.tape.trans h.tape, k.output.trans h.output, Nat.le_trans h.size k.size, fun i hi hl => (k.block i hi (Nat.lt_of_lt_of_le hl h.size)).trans (h.block i hi hl)⟩
theorem Off.below {p B : Nat} {w w' : World} (h : Off p w w') (hB : B ≤ p) (hs : B ≤ w.heap.size) : Below B w w' :=
  ⟨h.os, h.tape, h.output, h.size, fun k hk => h.block k (by omega) (by omega)⟩
theorem But.off {p : Nat} {w w' : World} (h : But p w w') : Off p w w' := ⟨h.os, h.tape, h.output, by rw [h.size]; exact Nat.le_refl _, fun k hk _ => h.block k hk⟩
theorem Off.of_below {p : Nat} {w w' : World} (h : Below w.heap.size w w') : Off p w w' := ⟨h.os, h.tape, h.output, h.size, fun k _ hl => h.block k hl⟩
theorem Off.drewN {p : Nat} {w w' : World} (h : Off p w w') (k : Nat) : Off p w (w'.drewN k) := ⟨h.os, h.tape, h.output, h.size, h.block⟩
theorem Zs.off {p : Nat} {w w' : World} {a : Option Addr} {n : Nat} {zs : List Int} (h : Zs w a n zs) (hb : Off p w w') (hp : ∀ x, a = some x → x.block ≠ p) : Zs w' a n zs :=
  ⟨h.len, fun h0 => by
    obtain ⟨b, off, e, hl, hc⟩ := h.at_ h0
    exact ⟨b, off, e, Nat.lt_of_lt_of_le hl hb.size, fun i hi => (World.cell?_of_block (w := w) (w' := w') (a := ⟨b, off + i, none⟩) (hb.block b (hp _ e) hl)).trans (hc i hi)⟩⟩

/-- n truth values lie at a. -/
structure Bs (w : World) (a : Option Addr) (n : Nat) (bs : List Bool) : Prop where
  len : bs.length = n
  at_ : 0 < n → ∃ b off, a = some ⟨b, off, none⟩ ∧ b < w.heap.size ∧ ∀ i, i < n → w.cell? ⟨b, off + i, none⟩ = some (.bool (bs[i]?.getD false))
theorem Bs.keep {w w' : World} {a : Option Addr} {n : Nat} {bs : List Bool} (h : Bs w a n bs) (hb : Below w.heap.size w w') : Bs w' a n bs :=
  ⟨h.len, fun h0 => by
    obtain ⟨b, off, e, hl, hc⟩ := h.at_ h0
    exact ⟨b, off, e, Nat.lt_of_lt_of_le hl hb.size, fun i hi => (hb.cell (p := ⟨b, off + i, none⟩) hl).trans (hc i hi)⟩⟩

/-- What the rows of a grid are as loudnesses. -/
def lvlsG (vs : Nat → RowV) : Nat → List Int
  | 0 => []
  | n + 1 => lvlsG vs n ++ [levelI (vs n).zs]

theorem RMt.off {p q : Nat} {m : MeterI} {w w' : World} (h : RMt p m w) (hb : Off q w w') (hp : p ≠ q) : RMt p m w' := h.of_block (hb.block p hp h.lt)

theorem lit1 {e : TypeId} (w : World) (x : Int) {g : Nat} (hg : g = w.heap.size) : Zs (w.alloc (.cells #[.int .i64 x] e)) (some ⟨g, 0, none⟩) 1 [x] := zs_lit w [x] rfl rfl hg
theorem lit2 {e : TypeId} (w : World) (x y : Int) {g : Nat} (hg : g = w.heap.size) : Zs (w.alloc (.cells #[.int .i64 x, .int .i64 y] e)) (some ⟨g, 0, none⟩) 2 [x, y] := zs_lit w [x, y] rfl rfl hg
/-- Two rows in a grid that is built. -/
def two2 (r0 r1 : RowV) : Nat → RowV
  | 0 => r0
  | _ => r1
theorem grid_two {e : TypeId} (w : World) (r0 r1 : RowV) (h0 : Zs w r0.a r0.len r0.zs) (h1 : Zs w r1.a r1.len r1.zs) (m0 : r0.len ≤ r0.cap ∧ r0.cap ≤ maxLen) (m1 : r1.len ≤ r1.cap ∧ r1.cap ≤ maxLen) (z0 : r0.a = none → r0.cap = 0) (z1 : r1.a = none → r1.cap = 0) {g : Nat} (hg : g = w.heap.size) :
    Grid (w.alloc (.cells #[.slice r0.a r0.len r0.cap, .slice r1.a r1.len r1.cap] e)) (some ⟨g, 0, none⟩) 2 (two2 r0 r1) := by
  subst hg
  refine ⟨fun _ => ⟨w.heap.size, 0, rfl, by simp, fun i hi => ?_⟩, fun i hi => ?_, fun i hi => ?_⟩
  · match i, hi with
    | 0, _ => rw [World.cell?_alloc_new]; rfl
    | 1, _ => rw [World.cell?_alloc_new]; rfl
  · match i, hi with
    | 0, _ => exact ⟨h0.alloc _, m0⟩
    | 1, _ => exact ⟨h1.alloc _, m1⟩
  · match i, hi with
    | 0, _ => exact z0
    | 1, _ => exact z1
theorem Bs.cell {w : World} {b n : Nat} {bs : List Bool} (h : Bs w (some ⟨b, 0, none⟩) n bs) {i : Nat} (hi : i < n) : w.cell? ⟨b, i, none⟩ = some (.bool (bs[i]?.getD false)) := by
  obtain ⟨b', off, e, _, hc⟩ := h.at_ (by omega)
  cases e
  have := hc i hi
  rwa [Nat.zero_add] at this

/-- A list that the law grows: its room too. -/
theorem owned_cap {e : TypeId} {B : Nat} {w : World} {v : Value} {n : Nat} {zs : List Int} (h : w.ownsRow B e 1 v n (zs.map (Value.int .i64))) : ∃ a cap, v = .slice a n cap ∧ NewRow e B w a zs ∧ n ≤ cap ∧ cap ≤ maxLen := by
  obtain ⟨_, a, cap, rfl, hnew⟩ := NewRow.of_owned h
  refine ⟨a, cap, rfl, hnew, ?_⟩
  obtain ⟨hl, h⟩ := h
  rcases h with ⟨h1, h2⟩ | ⟨g, cap', cur, h1, hg, hh, hnc, hcm, hcs, ht⟩
  · cases h1
    exact ⟨Nat.le_refl _, Nat.zero_le _⟩
  · cases h1
    exact ⟨hnc, hcm⟩
theorem dblV_take_succ {zs : List Int} {k : Nat} (h : k < zs.length) : dblV (zs.take k) ++ [2 * (zs[k]?.getD 0)] = dblV (zs.take (k + 1)) := by
  rw [take_snoc h]
  unfold dblV
  rw [List.map_append]
  rfl
theorem within_all {zs : List Int} {n : Nat} (hl : zs.length = n) (h : ∀ i, i < n → -16383 ≤ zs[i]?.getD 0 ∧ zs[i]?.getD 0 ≤ 16383) (i : Nat) : -16383 ≤ zs[i]?.getD 0 ∧ zs[i]?.getD 0 ≤ 16383 := by
  rcases Nat.lt_or_ge i n with h1 | h1
  · exact h i h1
  · rw [List.getElem?_eq_none (by omega)]
    exact ⟨by decide, by decide⟩

/-! ### Copies and truth values that the law grows -/
theorem info_bool : (Try.prog.info? 4).map (fun i => (i.zero, i.size, i.bytes)) = some (some (.bool false), 1, 1) := by kernel_rfl

/-- 'append([]int64{}, l...)' as one step of a statement that draws its order: a copy, with its room. -/
theorem step_copy_64 {ops : Array Oper} {o : Oper} {a : Act} {W : World} {K : Act → World → Prop} {Q : Exit → Act → World → Prop} {E : Prop} (B g : Nat) (xo : Option Addr) (n cap : Nat) (zs : List Int)
    (hz : Zs W xo n zs) (hnil : xo = none → cap = 0) (hn : n ≤ 100000) (hown : W.ownsRow B 2 1 (.slice (some ⟨g, 0, none⟩) 0 0) 0 []) (hB : B ≤ W.heap.size)
    (hgd : o.guard = none) (s x : Operand) (ho : o.op = .call { callee := .builtin .append, args := #[s, x], argTypes := #[28, 28] }) (hs : a.eval s = .slice (some ⟨g, 0, none⟩) 0 0) (hx : a.eval x = .slice xo n cap)
    (h : ∀ r c w', Zs w' r n zs → n ≤ c → c ≤ maxLen → Below B W w' → K (a.put o.dst (.slice r n c)) w') :
    if Region.wanted o (yielded ops a.tmps) = true then Oper.wp Try.prog o a W K Q else E := by
  have hw : Region.wanted o (yielded ops a.tmps) = true := by simp [Region.wanted, hgd]
  rw [if_pos hw]
  obtain ⟨i, hi, hzz⟩ := Option.map_eq_some_iff.1 info_int64
  simp only [Prod.mk.injEq] at hzz
  obtain ⟨hz0, hsz, hby⟩ := hzz
  have hall : ∃ r c w', (Builtin.append_ #[28, 28] o.type #[.slice (some ⟨g, 0, none⟩) 0 0, .slice xo n cap]).run Try.prog W = .ok (.slice r n c) w' ∧ Zs w' r n zs ∧ n ≤ c ∧ c ≤ maxLen ∧ Below B W w' := by
    cases xo with
    | none =>
      have h0 : n = 0 := by
        rcases Nat.eq_zero_or_pos n with h0 | h0
        · exact h0
        · obtain ⟨_, _, hx', _⟩ := hz.at_ h0
          cases hx'
      subst h0
      obtain rfl := hnil rfl
      refine ⟨_, _, _, run_append_owned_none (P := Try.prog) W B 28 o.type 2 i 1 Try.underlying28 hi _ _ _ hown, ⟨hz.len, fun h => absurd h (by decide)⟩, Nat.le_refl _, Nat.zero_le _, Below.refl _ _⟩
    | some x =>
      obtain ⟨v', w', hr, ho', hg, _⟩ := run_append_own (P := Try.prog) W B 28 o.type 2 i (.int .i64 0) 1 8 Try.underlying28 hi hz0 hsz hby rfl (by decide) _ 0 _ hown x n cap (zs.map (Value.int .i64)) (by simp [hz.len])
        (by
          intro j u hu
          have hj : j < n := by
            rcases Nat.lt_or_ge j n with h | h
            · exact h
            · rw [List.getElem?_eq_none (by rw [List.length_map, hz.len]; exact h)] at hu
              cases hu
          obtain ⟨b, off, e, _, hc⟩ := hz.at_ (by omega)
          cases e
          rw [Addr.add_lit, hc j hj]
          rw [List.getElem?_map, List.getElem?_eq_getElem (by rw [hz.len]; exact hj)] at hu
          rw [List.getElem?_eq_getElem (by rw [hz.len]; exact hj)]
          exact hu)
        (by intro u hu; obtain ⟨_, _, rfl⟩ := List.mem_map.1 hu; rfl) (by unfold maxLen; omega) (by omega) hB
      rw [Nat.zero_add, List.nil_append] at ho'
      obtain ⟨r, c, rfl, hnew, hc1, hc2⟩ := owned_cap ho'
      exact ⟨r, c, w', hr, Zs.of_new hnew hz.len, hc1, hc2, (Below.refl B W).grown hg hB (fun k hk => (hown.lt k hk).1)⟩
  obtain ⟨r, c, w', hr, h1, h2, h3, h4⟩ := hall
  unfold Oper.wp
  simp [execOp, ho, resolve, invoke, builtin, hs, hx, hr, Result.andThen]
  exact h r c w' h1 h2 h3 h4

/-- 'want = append(want, x)': the law's own truth values. -/
theorem wpList_append_bool {ops : Array Oper} {rest : List Oper} {o : Oper} {a : Act} {w : World} {Q : Exit → Act → World → Prop} (B : Nat) (v : Value) (n : Nat) (bs : List Bool) (y : Bool)
    (hown : w.ownsRow B 4 1 v n (bs.map Value.bool)) (hn : n ≤ 100000) (hB : B ≤ w.heap.size)
    (hw : Region.wanted o (yielded ops a.tmps) = true) (s x : Operand)
    (ho : o.op = .call { callee := .builtin .append, args := #[s, x], argTypes := #[24, 24] })
    (hs : a.eval s = v) (hx : a.eval x = .slice (some ⟨w.heap.size, 0, none⟩) 1 1)
    (h : ∀ v' w', w'.ownsRow B 4 1 v' (n + 1) ((bs ++ [y]).map Value.bool) → Below B w w' → wpList Try.prog ops Q rest (a.put o.dst v') w') :
    wpList Try.prog ops Q (o :: rest) a (w.alloc (.cells #[.bool y] 4)) := by
  obtain ⟨i, hi, hzz⟩ := Option.map_eq_some_iff.1 info_bool
  simp only [Prod.mk.injEq] at hzz
  obtain ⟨hz0, hsz, hby⟩ := hzz
  have hown2 : (w.alloc (.cells #[.bool y] 4)).ownsRow B 4 1 v n (bs.map Value.bool) := hown.alloc _
  obtain ⟨v', w', hr, ho', hg, _⟩ := run_append_own (P := Try.prog) (w.alloc (.cells #[.bool y] 4)) B 24 o.type 4 i (.bool false) 1 1 Try.underlying24 hi hz0 hsz hby rfl (by decide) v n _ hown2 ⟨w.heap.size, 0, none⟩ 1 1 [.bool y] (by simp)
    (World.news_of_block (heap_alloc_new w _)) (by intro u hu; simp at hu; subst hu; rfl) (by unfold maxLen; omega) (by omega) (by simp; omega)
  have e : (bs ++ [y]).map Value.bool = bs.map Value.bool ++ [.bool y] := by rw [List.map_append]; rfl
  exact wpList_append_run hw s x _ _ ho _ _ hs hx _ _ hr (h v' w' (by rw [e]; exact ho') (((Below.refl B w).alloc hB _).trans ((Below.refl B _).grown hg (by simp; omega) (fun k hk => (hown2.lt k hk).1))))

theorem Bs.of_owned {B : Nat} {w : World} {v : Value} {n : Nat} {bs : List Bool} (h : w.ownsRow B 4 1 v n (bs.map Value.bool)) : ∃ a cap, v = .slice a n cap ∧ Bs w a n bs := by
  obtain ⟨hl, h⟩ := h
  simp only [List.length_map, Nat.mul_one] at hl
  rcases h with ⟨rfl, rfl⟩ | ⟨g, cap, cur, rfl, hg, hh, hnc, hcm, hcs, ht⟩
  · exact ⟨_, _, rfl, hl, fun h => absurd h (by decide)⟩
  · refine ⟨_, _, rfl, hl, fun h0 => ⟨g, 0, rfl, ?_, fun i hi => ?_⟩⟩
    · rcases Nat.lt_or_ge g w.heap.size with h | h
      · exact h
      · rw [Array.getElem?_eq_none h] at hh
        cases hh
    · have h1 : (cur.toList.take (n * 1))[i]? = some (.bool (bs[i]?.getD false)) := by
        rw [ht, List.getElem?_map, List.getElem?_eq_getElem (by omega)]
        rfl
      rw [Nat.mul_one, List.getElem?_take_of_lt (by omega)] at h1
      rw [Nat.zero_add, cell_of_row w g i cur _ _ hh]
      simpa using h1

theorem lv_00 : levelI [0, 0] = 0 := by decide +kernel
theorem lv_16 : levelI [16, 16] = 2049 := by decide +kernel
theorem lv_1000 : levelI [1000, -1000] = 5102 := by decide +kernel
theorem lv_9999 : levelI [9999] = 6803 := by decide +kernel
theorem lv_0 : levelI [0] = 0 := by decide +kernel
theorem nx_one : (⟨-1, 0⟩ : MeterI).next 0 = ⟨0, 0⟩ := rfl
theorem td_one : (⟨-1, 0⟩ : MeterI).told 0 = false := rfl
theorem nx_two : (⟨0, 0⟩ : MeterI).next 5102 = ⟨8, 4⟩ := rfl
theorem td_two : (⟨0, 0⟩ : MeterI).told 5102 = true := rfl
theorem tl_two : (⟨-1, 0⟩ : MeterI).tells [0, 6803] = [false, true] := rfl
theorem ok_one : (⟨-1, 0⟩ : MeterI).Ok := ⟨by decide, by decide, by decide, by decide⟩
theorem ok_two : (⟨0, 0⟩ : MeterI).Ok := ⟨by decide, by decide, by decide, by decide⟩
end Vad
end Go.Proofs.Ytklpicfeajmadaa
