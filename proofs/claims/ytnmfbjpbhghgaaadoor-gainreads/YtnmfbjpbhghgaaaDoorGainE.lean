/- Package gain, the calls that read. -/
import Derived.Test.YtnmfbjpbhghgaaaDoorGainD
import Derived.Test.YtnmfbjpbhghgaaaDoorGainB
import Derived.Test.YtnmfbjpbhghgaaaDoorLastOp
namespace Go.Proofs.YtnmfbjpbhghgaaaDoor
open Go.RowKit

/-! ### The calls that read -/
def firstX : List Wr := [symX (icdfL 1) 0, uintX 8 0]
def nextX : List Wr := [symX (icdfL 2) 0]
def ltpX (least most : Int) : List Wr := [uintX (most - least + 1) 0, symX (icdfL 6) 0]

theorem sym_few {b : List Nat} (hb : Bytes b) {s : St} (hi : Inv s) (t : List Int) (h : t.length ≤ 17) : (symS b t s).1 ≤ 17 := by
  cases hg : goodB t
  · rw [(symS_inv hb hi t).2.2.2 hg]; exact Nat.zero_le _
  · have := (symS_inv hb hi t).2.2.1 hg
    omega

theorem readW_sym (b : List Nat) (t : List Int) (v : Int) (s : St) : readW b (symX t v) s = ((((symS b t s).1 : Nat) : Int), (symS b t s).2) := by unfold readW; exact if_pos rfl
theorem readW_uint (b : List Nat) (n v : Int) (s : St) : readW b (uintX n v) s = ((((uintS b n s).1 : Nat) : Int), (uintS b n s).2) := by
  unfold readW
  have h : (uintX n v).op = 3 := rfl
  rw [if_neg (by omega), if_neg (by omega), if_neg (by omega), if_pos h]
  rfl

theorem row_two {B : Nat} {w : World} {a : Option Addr} {x y : Int} (h : NewRow 3 B w a [x, y]) : ∃ g, a = some ⟨g, 0, none⟩ ∧ w.cell? ⟨g, 0, none⟩ = some (.int .i64 x) ∧ w.cell? ⟨g, 1, none⟩ = some (.int .i64 y) := by
  obtain ⟨g, rfl, _, _⟩ := h.some_of (by simp)
  exact ⟨g, rfl, h.cellAt (i := 0) (by simp), h.cellAt (i := 1) (by simp)⟩

theorem row_one {B : Nat} {w : World} {a : Option Addr} {x : Int} (h : NewRow 3 B w a [x]) : ∃ g, a = some ⟨g, 0, none⟩ ∧ w.cell? ⟨g, 0, none⟩ = some (.int .i64 x) := by
  obtain ⟨g, rfl, _, _⟩ := h.some_of (by simp)
  exact ⟨g, rfl, h.cellAt (i := 0) (by simp)⟩

/-- What is read as a first loudness, as one that comes next, as a lag and taps. -/
def firstI (b : List Nat) (s : St) : Int := 8 * (readW b (symX (icdfL 1) 0) s).1 + (readW b (uintX 8 0) (readW b (symX (icdfL 1) 0) s).2).1
def nextI (was k : Int) : Int := clampI (clampI was 0 63 + k - 8) 0 63

set_option maxHeartbeats 1600000 in
theorem readFirst_any (p g : Nat) (bs : List Nat) (s : St) (w : World) (h : Rd p g bs s w) (hi : Inv s) (hc : s.cnt ≤ 100000000000000) :
    Calls Tryd.prog 21 #[.pointer (some ⟨p, 0, none⟩)] w fun e w' => e = .returned (.int .i64 (firstI bs s)) ∧ Rd p g bs (afterL bs firstX s) w' ∧ Went (fun k => k = p) w (fun k => k = p) w' := by
  have HH : Hid (Rd p g bs s w) := h
  have hpw := h.lt
  have e1 := readW_sym bs (icdfL 1) 0 s
  have b1 := sym_few h.bytes hi (icdfL 1) (icdfL_len 1)
  have e2 := readW_uint bs 8 0 (readW bs (symX (icdfL 1) 0) s).2
  have hi2 : Inv (readW bs (symX (icdfL 1) 0) s).2 := (readW_inv h.bytes (.inl rfl) hi).1
  have b2 := (uintS_inv h.bytes hi2 8).2.2.1 (by decide)
  obtain ⟨z1, hz1⟩ : ∃ z, (readW bs (symX (icdfL 1) 0) s).1 = z := ⟨_, rfl⟩
  obtain ⟨z2, hz2⟩ : ∃ z, (readW bs (uintX 8 0) (readW bs (symX (icdfL 1) 0) s).2).1 = z := ⟨_, rfl⟩
  have r1 : 0 ≤ z1 ∧ z1 ≤ 17 := by rw [← hz1, e1]; show 0 ≤ (((symS bs (icdfL 1) s).1 : Nat) : Int) ∧ (((symS bs (icdfL 1) s).1 : Nat) : Int) ≤ 17; omega
  have r2 : 0 ≤ z2 ∧ z2 ≤ 8 := by rw [← hz2, e2]; show 0 ≤ (((uintS bs 8 _).1 : Nat) : Int) ∧ (((uintS bs 8 _).1 : Nat) : Int) ≤ 8; omega
  have HZ : Hid (readsL bs firstX s = [z1, z2] ∧ firstI bs s = 8 * z1 + z2) := ⟨by rw [← hz1, ← hz2]; rfl, by rw [← hz1, ← hz2]; rfl⟩
  clear h e1 b1 e2 hi2 b2 hz1 hz2
  have hb := Below.refl w.heap.size w
  go_enter Tryd.func21, Tryd.ntmps21
  go_wp2_with (first
    | (go_at_call 35; go_loud (refine (first_any 0 0 _).mono ?_; rintro e w1 ⟨a1, rfl, ht, hb1⟩; have hd1 := HH.out.keep hb1))
    | (go_at_call 39; go_loud (refine (readAll_any p g bs s a1 2 firstX w.heap.size _ _ hd1 hi hc ht hpw (Nat.le_refl _)).mono ?_; rw [HZ.out.1]; rintro e w2 ⟨a2, rfl, hr2, hd2, hw2⟩; obtain ⟨g2, rfl, hc0, hc1⟩ := row_two hr2)))
  go_quiet (fail)
  go_wp2
  go_ret
  exact ⟨by rw [HZ.out.2]; rfl, hd2.drewN _, ((Went.refl _ _).keep hb1).trans (hw2.drewN _)⟩


set_option maxHeartbeats 1600000 in
theorem readNext_any (p g : Nat) (bs : List Nat) (s : St) (was : Int) (w : World) (h : Rd p g bs s w) (hi : Inv s) (hc : s.cnt ≤ 100000000000000) :
    Calls Tryd.prog 23 #[.pointer (some ⟨p, 0, none⟩), .int .i64 was] w fun e w' => e = .returned (.int .i64 (nextI was (readW bs (symX (icdfL 2) 0) s).1)) ∧ Rd p g bs (afterL bs nextX s) w' ∧ Went (fun k => k = p) w (fun k => k = p) w' := by
  have HH : Hid (Rd p g bs s w) := h
  have hpw := h.lt
  have e1 := readW_sym bs (icdfL 2) 0 s
  have b1 := sym_few h.bytes hi (icdfL 2) (icdfL_len 2)
  obtain ⟨z1, hz1⟩ : ∃ z, (readW bs (symX (icdfL 2) 0) s).1 = z := ⟨_, rfl⟩
  have r1 : 0 ≤ z1 ∧ z1 ≤ 17 := by rw [← hz1, e1]; show 0 ≤ (((symS bs (icdfL 2) s).1 : Nat) : Int) ∧ (((symS bs (icdfL 2) s).1 : Nat) : Int) ≤ 17; omega
  have HZ : Hid (readsL bs nextX s = [z1]) := by show _ = _; rw [← hz1]; rfl
  rw [hz1]
  have HN : Hid (nextI was z1 = clampI (clampI was 0 63 + z1 - 8) 0 63) := rfl
  clear h e1 b1 hz1
  go_enter Tryd.func23, Tryd.ntmps23
  go_wp2_with (first
    | (go_at_call 51; go_loud (refine (next_any 0 _).mono ?_; rintro e w1 ⟨a1, rfl, ht, hb1⟩; have hd1 := HH.out.keep hb1))
    | (go_at_call 39; go_loud (refine (readAll_any p g bs s a1 1 nextX w.heap.size _ _ hd1 hi hc ht hpw (Nat.le_refl _)).mono ?_; rw [HZ.out]; rintro e w2 ⟨a2, rfl, hr2, hd2, hw2⟩; obtain ⟨g2, rfl, hc0⟩ := row_one hr2))
    | (go_at_call 50; go_loud (refine (changed_any was z1 _ (by omega) (by omega)).mono ?_; rw [← HN.out]; rintro e w3 ⟨rfl, rfl⟩)))
  go_ret
  exact ⟨rfl, hd2, ((Went.refl _ _).keep hb1).trans hw2⟩

/-- Block g holds a lag and taps. -/
def Pair (w : World) (g : Nat) (v0 v1 : Value) : Prop := w.heap[g]? = some (.cells #[v0, v1] 32 (0, 0))
theorem Pair.lt {w : World} {g : Nat} {v0 v1 : Value} (h : Pair w g v0 v1) : g < w.heap.size := (Array.getElem?_eq_some_iff.1 h).1
theorem Pair.new (w : World) (v0 v1 : Value) : Pair (w.alloc (.cells #[v0, v1] 32)) w.heap.size v0 v1 := heap_alloc_new w _
theorem Pair.keep {w w' : World} {g : Nat} {v0 v1 : Value} (h : Pair w g v0 v1) (hb : Below w.heap.size w w') : Pair w' g v0 v1 := (hb.block g h.lt).trans h
theorem Pair.went {w w' : World} {g : Nat} {v0 v1 : Value} {S S' : Nat → Prop} (h : Pair w g v0 v1) (hw : Went S w S' w') (hS : ¬ S g) : Pair w' g v0 v1 := (hw.block g h.lt hS).trans h
theorem Pair.cells {w : World} {g : Nat} {v0 v1 : Value} (h : Pair w g v0 v1) : w.cell? ⟨g, 0, none⟩ = some v0 ∧ w.cell? ⟨g, 1, none⟩ = some v1 := by
  constructor <;> simp [World.cell?, show w.heap[g]? = _ from h]
theorem Pair.frozen {w : World} {g : Nat} {v0 v1 : Value} (h : Pair w g v0 v1) (i : Nat) : w.frozen? ⟨g, i, none⟩ = false := by simp [World.frozen?, show w.heap[g]? = _ from h]
theorem Pair.set0 {w : World} {g : Nat} {v0 v1 : Value} (h : Pair w g v0 v1) (u : Value) : Pair (w.setCell ⟨g, 0, none⟩ u) g u v1 := by
  unfold Pair at h ⊢
  simp [World.setCell, Array.getElem?_modify, h]
theorem Pair.set1 {w : World} {g : Nat} {v0 v1 : Value} (h : Pair w g v0 v1) (u : Value) : Pair (w.setCell ⟨g, 1, none⟩ u) g v0 u := by
  unfold Pair at h ⊢
  simp [World.setCell, Array.getElem?_modify, h]
theorem Pair.drewN {w : World} {g : Nat} {v0 v1 : Value} (h : Pair w g v0 v1) (k : Nat) : Pair (w.drewN k) g v0 v1 := h

theorem lagsZ (rate : Int) : 0 ≤ leastI rate ∧ leastI rate ≤ mostI rate ∧ mostI rate ≤ 288 ∧ (mostI rate = 0 → leastI rate = 0) := by
  rcases lags_cases rate with ⟨_, h1, h2⟩ | ⟨_, h1, h2⟩ | ⟨_, _, h1, h2⟩ <;> rw [h1, h2] <;> decide

theorem readLtp_none (p : Nat) (rate : Int) (w : World) (h0 : mostI rate = 0) :
    Calls Tryd.prog 15 #[.pointer (some ⟨p, 0, none⟩), .int .i64 rate] w fun e w' => e = .returned (.agg #[.int .i64 0, .int .i64 0]) ∧ Below w.heap.size w w' := by
  have HL : Hid (∀ W, Calls Tryd.prog 10 #[.int .i64 rate] W fun e w' => e = .returned (.tuple #[.int .i64 0, .int .i64 0]) ∧ w' = W) := fun W => by
    have := lags_any rate W
    rw [(lagsZ rate).2.2.2 h0, h0] at this
    exact this
  clear h0
  have HP : Hid (Pair (w.alloc (.cells #[.int .i64 0, .int .i64 0] 32)) w.heap.size (.int .i64 0) (.int .i64 0)) := Pair.new _ _ _
  go_enter Tryd.func15, Tryd.ntmps15
  go_wp2_with (go_at_call 10; go_loud (refine (HL.out _).mono ?_; rintro e w1 ⟨rfl, rfl⟩))
  exact bodyPost_ret (results_cell_row rfl _ _ w.heap.size _ _ _ _ rfl HP.out Tryd.underlying32 rfl (by kernel_rfl)) rfl ⟨rfl, (Below.refl _ _).alloc (Nat.le_refl _) _⟩

set_option maxHeartbeats 1600000 in
theorem readLtp_any (p g : Nat) (bs : List Nat) (s : St) (rate : Int) (w : World) (h : Rd p g bs s w) (hi : Inv s) (hc : s.cnt ≤ 100000000000000) (h0 : 0 < mostI rate) :
    Calls Tryd.prog 15 #[.pointer (some ⟨p, 0, none⟩), .int .i64 rate] w fun e w' => e = .returned (.agg #[.int .i64 (leastI rate + (readW bs (uintX (mostI rate - leastI rate + 1) 0) s).1), .int .i64 (readW bs (symX (icdfL 6) 0) (readW bs (uintX (mostI rate - leastI rate + 1) 0) s).2).1]) ∧ Rd p g bs (afterL bs (ltpX (leastI rate) (mostI rate)) s) w' ∧ Went (fun k => k = p) w (fun k => k = p) w' := by
  have HH : Hid (Rd p g bs s w) := h
  have hpw := h.lt
  have HL : Hid (∀ W, Calls Tryd.prog 10 #[.int .i64 rate] W fun e w' => e = .returned (.tuple #[.int .i64 (leastI rate), .int .i64 (mostI rate)]) ∧ w' = W) := fun W => lags_any rate W
  obtain ⟨hl0, hl1, hl2, _⟩ := lagsZ rate
  generalize leastI rate = L at *
  generalize mostI rate = M at *
  have e1 := readW_uint bs (M - L + 1) 0 s
  have b1 := (uintS_inv h.bytes hi (M - L + 1)).2.2.1 (by omega)
  have e2 := readW_sym bs (icdfL 6) 0 (readW bs (uintX (M - L + 1) 0) s).2
  obtain ⟨z1, hz1⟩ : ∃ z, (readW bs (uintX (M - L + 1) 0) s).1 = z := ⟨_, rfl⟩
  obtain ⟨z2, hz2⟩ : ∃ z, (readW bs (symX (icdfL 6) 0) (readW bs (uintX (M - L + 1) 0) s).2).1 = z := ⟨_, rfl⟩
  have r1 : 0 ≤ z1 ∧ z1 ≤ 1000 := by rw [← hz1, e1]; show 0 ≤ (((uintS bs (M - L + 1) s).1 : Nat) : Int) ∧ (((uintS bs (M - L + 1) s).1 : Nat) : Int) ≤ 1000; omega
  have HZ : Hid (readsL bs (ltpX L M) s = [z1, z2]) := by show _ = _; rw [← hz1, ← hz2]; rfl
  rw [hz1, hz2]
  have HWR : Hid (IntKind.i64.wrap (L + z1) = L + z1) := by show _ = _; rw [IntKind.wrap_i64]; omega
  have hM0 : (M == 0) = false := beq_eq_false_iff_ne.2 (by omega)
  have HP : Hid (Pair (w.alloc (.cells #[.int .i64 0, .int .i64 0] 32)) w.heap.size (.int .i64 0) (.int .i64 0)) := Pair.new _ _ _
  have HB0 : Hid (Below w.heap.size w (w.alloc (.cells #[.int .i64 0, .int .i64 0] 32))) := (Below.refl _ _).alloc (Nat.le_refl _) _
  clear h e1 b1 e2 hz1 hz2 h0
  go_enter Tryd.func15, Tryd.ntmps15
  go_wp2_with (first
    | (go_at_call 10; go_loud (refine (HL.out _).mono ?_; rintro e w1 ⟨rfl, rfl⟩))
    | (go_at_call 37; go_loud (refine (repeated_any L M 0 0 _ hl0 hl1 (by omega)).mono ?_; rintro e w1 ⟨a1, rfl, ht, hb1⟩; have hd1 := (HH.out.keep HB0.out).keep hb1; have hp1 := HP.out.keep hb1))
    | (go_at_call 39; go_loud (refine (readAll_any p g bs s a1 2 (ltpX L M) _ _ _ hd1 hi hc ht (by rw [World.size_alloc]; omega) (Nat.le_refl _)).mono ?_; rw [HZ.out]; rintro e w2 ⟨a2, rfl, hr2, hd2, hw2⟩; obtain ⟨g2, rfl, hc0, hc1⟩ := row_two hr2; have hp2 := hp1.went hw2 (by omega))))
  obtain ⟨k0, k1⟩ := hp2.cells
  have hfz := hp2.frozen
  refine wp_region_last (by kernel_rfl) (by kernel_rfl) (by rfl) (by kernel_rfl) ?_
  dsimp only [List.dropLast]
  repeat (quiet_step (fail))
  refine wpQuiet_nil ?_
  rintro _ ⟨nq, rfl⟩
  go_simp
  rw [HWR.out]
  go_wp2
  have hp3 := ((hp2.drewN nq).set0 (.int .i64 (L + z1))).set1 (.int .i64 z2)
  have hne : w.heap.size ≠ p := by omega
  refine bodyPost_ret (results_cell_row rfl _ _ w.heap.size _ _ _ _ rfl hp3 Tryd.underlying32 rfl (by kernel_rfl)) rfl ⟨rfl, ?_, ?_⟩
  · refine (hd2.drewN nq).of_blocks ?_ ?_
    · rw [Below.heap_setCell _ _ _ _ (fun e => hne e.symm), Below.heap_setCell _ _ _ _ (fun e => hne e.symm)]
    · intro h0
      have hg := HH.out.gt h0
      rw [Below.heap_setCell _ _ _ _ (fun e => by have e' : g = w.heap.size := e; omega), Below.heap_setCell _ _ _ _ (fun e => by have e' : g = w.heap.size := e; omega)]
  · exact (((((Went.refl _ _).keep HB0.out).keep hb1).trans (hw2.drewN nq)).setNew (Nat.le_refl _) _ _).setNew (Nat.le_refl _) _ _

end Go.Proofs.YtnmfbjpbhghgaaaDoor
