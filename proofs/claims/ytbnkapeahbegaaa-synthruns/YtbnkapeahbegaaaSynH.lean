/- A run of a voice, step by step: plain lists; what lies in memory in its midst. -/
import Derived.Test.YtbnkapeahbegaaaSynE
import Derived.Test.YtbnkapeahbegaaaSynF
namespace Go.Proofs.Ytbnkapeahbegaaa
open Go.RowKit

/-! ### Plain: what is kept behind a run -/
def soundsL (p : PartP) (l D E : List Int) : List Int := (runS p l D.reverse E.reverse).1
def drovL (p : PartP) (l D E : List Int) : List Int := (runS p l D.reverse E.reverse).2.1.reverse
def cameL (p : PartP) (l D E : List Int) : List Int := (runS p l D.reverse E.reverse).2.2.reverse
def nextD (p : PartP) (l D E : List Int) : List Int := (drovL p l D E).drop l.length
def nextE (p : PartP) (l D E : List Int) : List Int := (cameL p l D E).drop l.length

theorem runS_drov_len (p : PartP) : ∀ (l R O : List Int), (runS p l R O).2.1.length = l.length + R.length
  | [], R, _ => by show R.length = 0 + R.length; omega
  | x :: l, R, O => by
    show (runS p l _ _).2.1.length = l.length + 1 + R.length
    rw [runS_drov_len p l, List.length_cons]
    omega
theorem runS_came_len (p : PartP) (l R O : List Int) : (runS p l R O).2.2.length = l.length + O.length := by
  rw [runS_kept, List.length_append, List.length_reverse, runS_len]

section
variable {p : PartP} {l D E : List Int}
theorem drovL_len : (drovL p l D E).length = l.length + D.length := by
  unfold drovL
  rw [List.length_reverse, runS_drov_len, List.length_reverse]
theorem cameL_len : (cameL p l D E).length = l.length + E.length := by
  unfold cameL
  rw [List.length_reverse, runS_came_len, List.length_reverse]
theorem soundsL_len : (soundsL p l D E).length = l.length := runS_len _ _ _ _
theorem nextD_len : (nextD p l D E).length = D.length := by
  unfold nextD
  rw [List.length_drop, drovL_len]
  omega
theorem nextE_len : (nextE p l D E).length = E.length := by
  unfold nextE
  rw [List.length_drop, cameL_len]
  omega
/-- What came out lies behind what had been kept. -/
theorem cameL_is : cameL p l D E = E ++ soundsL p l D E := by
  unfold cameL soundsL
  rw [runS_kept, List.reverse_append, List.reverse_reverse, List.reverse_reverse]
theorem nextD_reverse : (nextD p l D E).reverse = (runS p l D.reverse E.reverse).2.1.take D.length := by
  unfold nextD drovL
  rw [List.reverse_drop, List.reverse_reverse]
  congr 1
  rw [List.length_reverse, runS_drov_len, List.length_reverse]
  omega
theorem nextE_reverse : (nextE p l D E).reverse = (runS p l D.reverse E.reverse).2.2.take E.length := by
  unfold nextE cameL
  rw [List.reverse_drop, List.reverse_reverse]
  congr 1
  rw [List.length_reverse, runS_came_len, List.length_reverse]
  omega
theorem Tame.take {n : Nat} {l : List Int} (h : Tame l) : Tame (l.take n) := fun i => by
  by_cases hi : i < n
  · rw [List.getElem?_take_of_lt hi]
    exact h i
  · rw [List.getElem?_eq_none (by rw [List.length_take]; omega)]
    exact ⟨by decide, by decide⟩
theorem nextD_tame (hD : Tame D.reverse) (hE : Tame E.reverse) : Tame (nextD p l D E).reverse := by
  rw [nextD_reverse]
  exact (runS_tame l D.reverse E.reverse hD hE).1.take
theorem nextE_tame (hD : Tame D.reverse) (hE : Tame E.reverse) : Tame (nextE p l D E).reverse := by
  rw [nextE_reverse]
  exact (runS_tame l D.reverse E.reverse hD hE).2.take
theorem nextD_alike (hD : D.length = 320) : Alike 320 (nextD p l D E).reverse (runS p l D.reverse E.reverse).2.1 := by
  rw [nextD_reverse, hD]
  exact Alike.take _ _
theorem nextE_alike (hE : E.length = 32) : Alike 32 (nextE p l D E).reverse (runS p l D.reverse E.reverse).2.2 := by
  rw [nextE_reverse, hE]
  exact Alike.take _ _

theorem drovL_reverse : (drovL p l D E).reverse = (runS p l D.reverse E.reverse).2.1 := List.reverse_reverse _
theorem cameL_reverse : (cameL p l D E).reverse = (runS p l D.reverse E.reverse).2.2 := List.reverse_reverse _

/-- One sample more. -/
theorem drov_step {k : Nat} (hk : k < l.length) : drovL p (l.take (k + 1)) D E = drovL p (l.take k) D E ++ [driveI p (l[k]?.getD 0) (drovL p (l.take k) D E).reverse] := by
  rw [drovL_reverse]
  unfold drovL
  rw [take_snoc hk, runS_snoc, List.reverse_cons]
theorem came_step {k : Nat} (hk : k < l.length) : cameL p (l.take (k + 1)) D E = cameL p (l.take k) D E ++ [outI p (driveI p (l[k]?.getD 0) (drovL p (l.take k) D E).reverse) (cameL p (l.take k) D E).reverse] := by
  rw [drovL_reverse, cameL_reverse]
  unfold cameL
  rw [take_snoc hk, runS_snoc, List.reverse_cons]
theorem drov_none : drovL p (l.take 0) D E = D := List.reverse_reverse _
theorem came_none : cameL p (l.take 0) D E = E := List.reverse_reverse _
theorem drov_tame {k : Nat} (hD : Tame D.reverse) (hE : Tame E.reverse) : Tame (drovL p (l.take k) D E).reverse := by
  rw [drovL_reverse]
  exact (runS_tame _ _ _ hD hE).1
theorem came_tame {k : Nat} (hD : Tame D.reverse) (hE : Tame E.reverse) : Tame (cameL p (l.take k) D E).reverse := by
  rw [cameL_reverse]
  exact (runS_tame _ _ _ hD hE).2
end

/-- A list and room behind it: the first place of the room is filled. -/
theorem fill_room (A : List Int) (m : Nat) (v : Int) {i : Nat} (hi : A.length = i) : (A ++ zeros (m + 1)).set i v = (A ++ [v]) ++ zeros m := by
  unfold zeros
  rw [List.replicate_succ, set_mid A _ 0 v hi, List.append_assoc]
  rfl
theorem room_front (A : List Int) (m : Nat) {i : Nat} (hi : A.length = i) : (A ++ zeros m).take i = A := List.take_left' hi

theorem driveI_is (p : PartP) (x : Int) (R : List Int) (q : Int) (hq : q = if p.lag = 0 then 0 else lagsN p R 0 5) : driveI p x R = keep24 (x * p.loud + q) := by
  unfold driveI
  by_cases h : p.lag = 0
  · rw [if_pos h] at hq
    rw [if_pos h, hq, Int.add_zero]
  · rw [if_neg h] at hq
    rw [if_neg h, hq, ← lagsN_from]
theorem outI_is (p : PartP) (r : Int) (O : List Int) : outI p r O = keep24 (r + filtN p O 0 p.filt.length) := by
  unfold outI
  rw [← filtN_from]

/-- What is good, in numbers. -/
theorem goodB_fine {l t f : List Int} {loud lag : Int} (h : goodB l loud lag t f = true) : PartP.Fine ⟨loud, lag.toNat, t, f⟩ ∧ 1 ≤ l.length ∧ l.length ≤ 480 ∧ (lag = (lag.toNat : Int)) ∧ ∀ k : Nat, -16 ≤ l[k]?.getD 0 ∧ l[k]?.getD 0 ≤ 16 := by
  unfold goodB lagB at h
  simp only [Bool.and_eq_true, decide_eq_true_eq] at h
  obtain ⟨h1, h2, h3, h4, h5, h6, h7, h8, h9⟩ := h
  refine ⟨⟨h4, h5, ?_, fun j => withinB_all (by decide) h7 j, fun j => withinB_all (by decide) h9 j, h8⟩, h1, h2, ?_, fun k => withinB_all (by decide) h3 k⟩
  · show lag.toNat = 0 ∨ 3 ≤ lag.toNat ∧ lag.toNat ≤ 318
    omega
  · omega

theorem repeated_any (a : Option Addr) (n cap : Nat) (zs : List Int) (pa : Option Addr) (pn pcap : Nat) (loud lag t0 t1 t2 t3 t4 : Int) (fa : Option Addr) (fn fcap : Nat) (f : List Int) (w : World) (hz : Zs w a n zs) (h320 : 320 ≤ n) (hn : n ≤ 1000) (hl : lag = (lag.toNat : Int)) (hp : PartP.Fine ⟨loud, lag.toNat, [t0, t1, t2, t3, t4], f⟩) (ht : Tame zs.reverse) :
    Calls Try.prog 22 #[.slice a n cap, .agg #[.slice pa pn pcap, .int .i64 loud, .int .i64 lag, .int .i64 t0, .int .i64 t1, .int .i64 t2, .int .i64 t3, .int .i64 t4, .slice fa fn fcap]] w fun e w' => e = .returned (.int .i64 (if lag.toNat = 0 then 0 else lagsN ⟨loud, lag.toNat, [t0, t1, t2, t3, t4], f⟩ zs.reverse 0 5)) ∧ Below w.heap.size w w' := by
  by_cases h0 : lag.toNat = 0
  · rw [if_pos h0]
    have : lag = 0 := by omega
    subst this
    exact repeated_none _ _ _ _ _ _ _ _ _ _ _ _ _ _ _ _
  · rw [if_neg h0]
    have h3 := hp.lag
    have h4 : 3 ≤ lag.toNat ∧ lag.toNat ≤ 318 := by
      rcases h3 with h | h
      · exact absurd h h0
      · exact h
    generalize hL : lag.toNat = L at *
    rw [hl]
    exact repeated_some a n cap zs pa pn pcap loud t0 t1 t2 t3 t4 fa fn fcap f L w hz h320 hn h4.1 h4.2 hp ht

theorem Vo.zsD {p : Nat} {D E : List Int} {w : World} (h : Vo p D E w) : Zs w (some ⟨p, 0, none⟩) 320 D := by
  have h1 := h.arr.zs 0 320 (by rw [h.len]; decide)
  rw [List.drop_zero, List.take_left' h.dl] at h1
  exact h1
theorem Vo.zsE {p : Nat} {D E : List Int} {w : World} (h : Vo p D E w) : Zs w (some ⟨p, 320, none⟩) 32 E := by
  have h1 := h.arr.zs 320 32 (by rw [h.len]; decide)
  rw [List.drop_left' h.dl, List.take_of_length_le (Nat.le_of_eq h.el)] at h1
  exact h1
theorem load_int64 {W : World} {a : Addr} {v : Value} (h : W.cell? a = some v) : (Instr.loadAt 2 (.pointer (some a))).run Try.prog W = .ok v W := by
  have hu := Try.underlying2
  simp [Instr.loadAt, Instr.sureAddr, loadVar, isAgg, run_underlying hu, h]
theorem load_ints {W : World} {a : Addr} {v : Value} (h : W.cell? a = some v) : (Instr.loadAt 25 (.pointer (some a))).run Try.prog W = .ok v W := by
  have hu := Try.underlying25
  simp [Instr.loadAt, Instr.sureAddr, loadVar, isAgg, run_underlying hu, h]
theorem splice_zeros (D : List Int) (m n : Nat) (h : D.length = m) : splice (zeros (m + n)) 0 D = D ++ zeros n := by
  have e : zeros (m + n) = zeros m ++ zeros n := by
    unfold zeros
    rw [List.replicate_append_replicate]
  rw [e]
  exact splice_front _ _ _ (by rw [zeros_len, h])

/-! ### In the midst of a run -/
/-- The part lies at g, what drove at x, what came out at r; nothing older has turned. -/
structure Mid (w : World) (g x r : Nat) (cs : Array Value) (A B : List Int) (W : World) : Prop where
  bel : Below w.heap.size w W
  box : W.heap[g]? = some (.cells cs 31 (0, 0))
  rr : ArrAt W x A
  oo : ArrAt W r B
  gw : w.heap.size ≤ g
  xw : w.heap.size ≤ x
  rw' : w.heap.size ≤ r
  xr : x ≠ r
  gx : g ≠ x
  gr : g ≠ r

section
variable {w W W' : World} {g x r : Nat} {cs : Array Value} {A B : List Int}
theorem Mid.glt (h : Mid w g x r cs A B W) : g < W.heap.size := (Array.getElem?_eq_some_iff.1 h.box).1
theorem Mid.keep (h : Mid w g x r cs A B W) (hb : Below W.heap.size W W') : Mid w g x r cs A B W' :=
  ⟨h.bel.trans (hb.mono h.bel.size), (hb.block g h.glt).trans h.box, h.rr.keep hb, h.oo.keep hb, h.gw, h.xw, h.rw', h.xr, h.gx, h.gr⟩
theorem Mid.setR (h : Mid w g x r cs A B W) (i : Nat) (v : Int) : Mid w g x r cs (A.set i v) B (W.setCell ⟨x, i, none⟩ (.int .i64 v)) :=
  ⟨h.bel.setCell (p := ⟨x, i, none⟩) h.xw _, (Below.heap_setCell W ⟨x, i, none⟩ _ g h.gx).trans h.box, h.rr.set i v, h.oo.other (p := ⟨x, i, none⟩) (Ne.symm h.xr) _, h.gw, h.xw, h.rw', h.xr, h.gx, h.gr⟩
theorem Mid.setO (h : Mid w g x r cs A B W) (i : Nat) (v : Int) : Mid w g x r cs A (B.set i v) (W.setCell ⟨r, i, none⟩ (.int .i64 v)) :=
  ⟨h.bel.setCell (p := ⟨r, i, none⟩) h.rw' _, (Below.heap_setCell W ⟨r, i, none⟩ _ g h.gr).trans h.box, h.rr.other (p := ⟨r, i, none⟩) h.xr _, h.oo.set i v, h.gw, h.xw, h.rw', h.xr, h.gx, h.gr⟩
theorem Mid.rowR (h : Mid w g x r cs A B W) (zs : List Int) : Mid w g x r cs zs B (W.setRow x (arrV zs)) :=
  ⟨below_setRow h.bel h.xw _, (setRow_other W x g _ h.gx).trans h.box, h.rr.row zs, h.oo.rowOther (Ne.symm h.xr) _, h.gw, h.xw, h.rw', h.xr, h.gx, h.gr⟩
theorem Mid.rowO (h : Mid w g x r cs A B W) (zs : List Int) : Mid w g x r cs A zs (W.setRow r (arrV zs)) :=
  ⟨below_setRow h.bel h.rw' _, (setRow_other W r g _ h.gr).trans h.box, h.rr.rowOther h.xr _, h.oo.row zs, h.gw, h.xw, h.rw', h.xr, h.gx, h.gr⟩
/-- The part's cells. -/
theorem Mid.cells {u0 u1 u2 u3 u4 u5 u6 u7 u8 : Value} (h : Mid w g x r #[u0, u1, u2, u3, u4, u5, u6, u7, u8] A B W) :
    W.cell? ⟨g, 0, none⟩ = some u0 ∧ W.cell? ⟨g, 1, none⟩ = some u1 ∧ W.cell? ⟨g, 2, none⟩ = some u2 ∧ W.cell? ⟨g, 3, none⟩ = some u3 ∧ W.cell? ⟨g, 4, none⟩ = some u4 ∧ W.cell? ⟨g, 5, none⟩ = some u5 ∧ W.cell? ⟨g, 6, none⟩ = some u6 ∧ W.cell? ⟨g, 7, none⟩ = some u7 ∧ W.cell? ⟨g, 8, none⟩ = some u8 := by
  refine ⟨?_, ?_, ?_, ?_, ?_, ?_, ?_, ?_, ?_⟩ <;> (rw [cell_of_row W g _ _ _ (0, 0) h.box]; rfl)
/-- How it begins: both lists made, in either order. -/
theorem Mid.start1 {rn on : Nat} {e : TypeId} (h : Below (w.alloc (.cells cs 31)).heap.size (w.alloc (.cells cs 31)) W) : Mid w w.heap.size W.heap.size (W.heap.size + 1) cs (zeros rn) (zeros on) ((W.alloc (.cells (madeCells #[.int .i64 0] rn) e)).alloc (.cells (madeCells #[.int .i64 0] on) e)).drew := by
  have hs := h.size
  simp only [World.size_alloc] at hs
  have h1 : (W.alloc (.cells (madeCells #[.int .i64 0] rn) e)).heap.size = W.heap.size + 1 := by simp
  have b1 : Below W.heap.size W ((W.alloc (.cells (madeCells #[.int .i64 0] rn) e)).alloc (.cells (madeCells #[.int .i64 0] on) e)).drew := (((Below.refl _ _).alloc (Nat.le_refl _) _).alloc (by omega) _).drew
  refine ⟨?_, ?_, ((arrAt_made W rn).alloc _).drew, ?_, Nat.le_refl _, by omega, by omega, by omega, by omega, by omega⟩
  · exact ((Below.refl _ w).alloc (Nat.le_refl _) _).trans ((h.mono (by simp)).trans (b1.mono (by omega)))
  · rw [b1.block w.heap.size (by omega), h.block w.heap.size (by simp)]
    exact heap_alloc_new w _
  · have := arrAt_made (e := e) (W.alloc (.cells (madeCells #[.int .i64 0] rn) e)) on
    rw [h1] at this
    exact this.drew
theorem Mid.start2 {rn on : Nat} {e : TypeId} (h : Below (w.alloc (.cells cs 31)).heap.size (w.alloc (.cells cs 31)) W) : Mid w w.heap.size (W.heap.size + 1) W.heap.size cs (zeros rn) (zeros on) ((W.alloc (.cells (madeCells #[.int .i64 0] on) e)).alloc (.cells (madeCells #[.int .i64 0] rn) e)).drew := by
  have := Mid.start1 (rn := on) (on := rn) (e := e) h
  exact ⟨this.bel, this.box, this.oo, this.rr, this.gw, this.rw', this.xw, Ne.symm this.xr, this.gr, this.gx⟩
theorem Mid.frontR {m i : Nat} (h : Mid w g x r cs (A ++ zeros m) B W) (hA : A.length = i) : Zs W (some ⟨x, 0, none⟩) i A := by
  have h1 := h.rr.zs 0 i (by rw [List.length_append]; omega)
  rw [List.drop_zero, room_front A m hA] at h1
  exact h1
theorem Mid.frontO {m i : Nat} (h : Mid w g x r cs A (B ++ zeros m) W) (hB : B.length = i) : Zs W (some ⟨r, 0, none⟩) i B := by
  have h1 := h.oo.zs 0 i (by rw [List.length_append]; omega)
  rw [List.drop_zero, room_front B m hB] at h1
  exact h1
theorem Mid.fillR {m i : Nat} (h : Mid w g x r cs (A ++ zeros (m + 1)) B W) (hA : A.length = i) (v : Int) : Mid w g x r cs ((A ++ [v]) ++ zeros m) B (W.setCell ⟨x, i, none⟩ (.int .i64 v)) := by
  have h1 := h.setR i v
  rw [fill_room A m v hA] at h1
  exact h1
theorem Mid.fillO {m i : Nat} (h : Mid w g x r cs A (B ++ zeros (m + 1)) W) (hB : B.length = i) (v : Int) : Mid w g x r cs A ((B ++ [v]) ++ zeros m) (W.setCell ⟨r, i, none⟩ (.int .i64 v)) := by
  have h1 := h.setO i v
  rw [fill_room B m v hB] at h1
  exact h1
theorem room_at {A : List Int} {m i : Nat} (hA : A.length = i) : (A ++ zeros (m + 1))[i]?.getD 0 = 0 := by
  rw [List.getElem?_append_right (by omega)]
  exact zeros_at _ _
theorem Mid.cellR {m i : Nat} (h : Mid w g x r cs (A ++ zeros (m + 1)) B W) (hA : A.length = i) : W.cell? ⟨x, i, none⟩ = some (.int .i64 0) := by
  rw [h.rr.cell (by rw [List.length_append, zeros_len]; omega), room_at hA]
theorem Mid.cellO {m i : Nat} (h : Mid w g x r cs A (B ++ zeros (m + 1)) W) (hB : B.length = i) : W.cell? ⟨r, i, none⟩ = some (.int .i64 0) := by
  rw [h.oo.cell (by rw [List.length_append, zeros_len]; omega), room_at hB]
theorem Mid.newest {m i : Nat} {v : Int} (h : Mid w g x r cs ((A ++ [v]) ++ zeros m) B W) (hA : A.length = i) : W.cell? ⟨x, i, none⟩ = some (.int .i64 v) := by
  rw [h.rr.cell (by rw [List.length_append, List.length_append]; simp; omega)]
  rw [List.append_assoc, List.getElem?_append_right (by omega), hA, Nat.sub_self]
  rfl
theorem size_part : (Try.prog.info? 31).map (·.size) = some 9 := by kernel_rfl
theorem Mid.loaded {u0 u1 u2 u3 u4 u5 u6 u7 u8 : Value} (h : Mid w g x r #[u0, u1, u2, u3, u4, u5, u6, u7, u8] A B W) : (Instr.loadAt 31 (.pointer (some ⟨g, 0, none⟩))).run Try.prog W = .ok (.agg #[u0, u1, u2, u3, u4, u5, u6, u7, u8]) W := by
  simp only [Instr.loadAt, Instr.sureAddr, Sem.run_bind, Sem.run_pure, Result.andThen_ok]
  rw [run_loadVar_row W g _ _ _ (0, 0) _ h.box Try.underlying31 rfl size_part]
end

end Go.Proofs.Ytbnkapeahbegaaa
