/- The program's reader and the document's own, beside each other over the same bytes; what each of both finds. -/
import Derived.Test.YtnmfbjpbhghgaaaDoorGainJ
import Derived.Test.YtnmfbjpbhghgaaaDoorGainU
import Derived.Deep.RegionHeld3
namespace Go.Proofs.YtnmfbjpbhghgaaaDoor
open Go.RowKit

structure Duo (B pd qd pe ge : Nat) (bs : List Nat) (s t : St) (W : World) : Prop where
  d : Rd pd qd bs s W
  r : Rr pe ge bs t W
  ne : pd < pe
  qd : qd ≤ pd
  bd : B ≤ pd
  gl : bs ≠ [] → ge < B

section
variable {B pd qd pe ge : Nat} {bs : List Nat} {s t : St} {W W' : World}

theorem Duo.size (h : Duo B pd qd pe ge bs s t W) : pe < W.heap.size := h.r.lt

theorem Duo.keep (h : Duo B pd qd pe ge bs s t W) (hb : Below W.heap.size W W') : Duo B pd qd pe ge bs s t W' := by
  have h1 := h.size
  have h2 := h.ne
  have h3 := h.bd
  exact ⟨h.d.keep hb, h.r.below hb h1 (fun h0 => by have := h.gl h0; omega), h2, h.qd, h3, h.gl⟩

theorem Duo.drewN (h : Duo B pd qd pe ge bs s t W) (n : Nat) : Duo B pd qd pe ge bs s t (W.drewN n) := ⟨h.d.drewN n, h.r.drewN n, h.ne, h.qd, h.bd, h.gl⟩

theorem Duo.drew (h : Duo B pd qd pe ge bs s t W) : Duo B pd qd pe ge bs s t W.drew := ⟨h.d.drew, h.r.drewN 1, h.ne, h.qd, h.bd, h.gl⟩

/-- The program's reader went on. -/
theorem Duo.read {s' : St} (h : Duo B pd qd pe ge bs s t W) (hd : Rd pd qd bs s' W') (hw : Went (fun k => k = pd) W (fun k => k = pd) W') : Duo B pd qd pe ge bs s' t W' := by
  have h1 := h.size
  have h2 := h.ne
  have h3 := h.bd
  exact ⟨hd, h.r.of_blocks (hw.block pe h1 (by omega)) (fun h0 => hw.block ge (by have := h.gl h0; omega) (by have := h.gl h0; omega)), h2, h.qd, h3, h.gl⟩

/-- The document's reader went on. -/
theorem Duo.refd {t' : St} (h : Duo B pd qd pe ge bs s t W) (hr : Rr pe ge bs t' W') (hw : But pe W W') : Duo B pd qd pe ge bs s t' W' := by
  have h2 := h.ne
  have h3 := h.qd
  exact ⟨h.d.but hw (by omega) (by omega), hr, h2, h3, h.bd, h.gl⟩

/-- A store into a block that is younger than both. -/
theorem Duo.set (h : Duo B pd qd pe ge bs s t W) {b : Nat} (hb : pe < b) (i : Nat) (v : Value) : Duo B pd qd pe ge bs s t (W.setCell ⟨b, i, none⟩ v) := by
  have h2 := h.ne
  have h3 := h.qd
  have h4 := h.bd
  have hk : ∀ k, k < b → (W.setCell ⟨b, i, none⟩ v).heap[k]? = W.heap[k]? := fun k hk => Below.heap_setCell W ⟨b, i, none⟩ v k (by show k ≠ b; omega)
  exact ⟨h.d.of_blocks (hk _ (by omega)) (fun _ => hk _ (by omega)), h.r.of_blocks (hk _ (by omega)) (fun h0 => hk _ (by have := h.gl h0; omega)), h2, h3, h4, h.gl⟩
end

theorem Pair.but {w w' : World} {g p : Nat} {v0 v1 : Value} (h : Pair w g v0 v1) (hw : But p w w') (hg : g ≠ p) : Pair w' g v0 v1 := (hw.block g hg).trans h

/-- What the program's call of a lag and taps finds, whatever the rate. -/
theorem readLtp_all (p g : Nat) (bs : List Nat) (s : St) (rate : Int) (w : World) (h : Rd p g bs s w) (hi : Inv s) (hc : s.cnt ≤ 100000000000000) (lz tz : Int) (s' : St)
    (h1 : 0 < mostI rate → lz = leastI rate + (readW bs (uintX (mostI rate - leastI rate + 1) 0) s).1 ∧ tz = (readW bs (symX (icdfL 6) 0) (readW bs (uintX (mostI rate - leastI rate + 1) 0) s).2).1 ∧ s' = afterL bs (ltpX (leastI rate) (mostI rate)) s)
    (h2 : ¬ 0 < mostI rate → lz = 0 ∧ tz = 0 ∧ s' = s) :
    Calls Tryd.prog 15 #[.pointer (some ⟨p, 0, none⟩), .int .i64 rate] w fun e w' => e = .returned (.agg #[.int .i64 lz, .int .i64 tz]) ∧ Rd p g bs s' w' ∧ Went (fun k => k = p) w (fun k => k = p) w' := by
  by_cases h0 : 0 < mostI rate
  · obtain ⟨rfl, rfl, rfl⟩ := h1 h0
    exact readLtp_any p g bs s rate w h hi hc h0
  · obtain ⟨rfl, rfl, rfl⟩ := h2 h0
    have := lagsZ rate
    refine (readLtp_none p rate w (by omega)).mono ?_
    rintro e w' ⟨rfl, hb⟩
    exact ⟨rfl, h.keep hb, (Went.refl _ _).keep hb⟩


/-! ### What is found, step by step -/
theorem first_is (b : List Nat) (s : St) : firstI b s = 8 * (readW b (symX (icdfL 1) 0) s).1 + (readW b (uintX 8 0) (readW b (symX (icdfL 1) 0) s).2).1 ∧ afterL b firstX s = (readW b (uintX 8 0) (readW b (symX (icdfL 1) 0) s).2).2 := ⟨rfl, rfl⟩
theorem next_is (b : List Nat) (s : St) : afterL b nextX s = (readW b (symX (icdfL 2) 0) s).2 := rfl
theorem ltp_is (b : List Nat) (L M : Int) (s : St) : afterL b (ltpX L M) s = (readW b (symX (icdfL 6) 0) (readW b (uintX (M - L + 1) 0) s).2).2 := rfl

/-- A symbol that is read: which, and where the reader stands then. -/
structure SymTo (bs : List Nat) (t : List Int) (s : St) (k : Nat) (s' : St) : Prop where
  val : (((symS bs t s).1 : Nat) : Int) = k
  to : (symS bs t s).2 = s'
  read : readW bs (symX t 0) s = ((k : Int), s')
  inv : Inv s'
  cnt : s'.cnt ≤ s.cnt + 60
  few : (k : Int) ≤ 17

theorem sym_to {bs : List Nat} (hb : Bytes bs) {t : List Int} (ht : t.length ≤ 17) {s : St} (hi : Inv s) : ∃ k s', SymTo bs t s k s' := by
  obtain ⟨h1, h2⟩ := readW_inv hb (x := symX t 0) (.inl rfl) hi
  rw [readW_sym] at h1 h2
  exact ⟨_, _, rfl, rfl, readW_sym bs t 0 s, h1, h2, by have := sym_few hb hi t ht; omega⟩

structure UintTo (bs : List Nat) (n : Int) (s : St) (k : Nat) (s' : St) : Prop where
  val : (((uintS bs n s).1 : Nat) : Int) = k
  to : (uintS bs n s).2 = s'
  read : readW bs (uintX n 0) s = ((k : Int), s')
  inv : Inv s'
  cnt : s'.cnt ≤ s.cnt + 60
  less : (k : Int) < n

theorem uint_to {bs : List Nat} (hb : Bytes bs) {n : Int} (hn : 1 ≤ n) {s : St} (hi : Inv s) : ∃ k s', UintTo bs n s k s' := by
  obtain ⟨h1, h2⟩ := readW_inv hb (x := uintX n 0) (.inr rfl) hi
  rw [readW_uint] at h1 h2
  exact ⟨_, _, rfl, rfl, readW_uint bs n 0 s, h1, h2, (uintS_inv hb hi n).2.2.1 hn⟩

theorem first_to {bs : List Nat} {s sA s1 : St} {k1 k2 : Nat} (h1 : SymTo bs (icdfL 1) s k1 sA) (h2 : UintTo bs 8 sA k2 s1) : firstI bs s = 8 * (k1 : Int) + (k2 : Int) ∧ afterL bs firstX s = s1 := by
  obtain ⟨e1, e2⟩ := first_is bs s
  rw [e1, e2, h1.read]
  simp only
  rw [h2.read]
  exact ⟨rfl, rfl⟩

theorem next_to {bs : List Nat} {s s2 : St} {k : Nat} (h : SymTo bs (icdfL 2) s k s2) : (readW bs (symX (icdfL 2) 0) s).1 = k ∧ afterL bs nextX s = s2 := by
  rw [next_is, h.read]
  exact ⟨rfl, rfl⟩

theorem ltp_to {bs : List Nat} {L M : Int} {s sC s3 : St} {k4 k5 : Nat} (h1 : UintTo bs (M - L + 1) s k4 sC) (h2 : SymTo bs (icdfL 6) sC k5 s3) :
    (readW bs (uintX (M - L + 1) 0) s).1 = k4 ∧ (readW bs (symX (icdfL 6) 0) (readW bs (uintX (M - L + 1) 0) s).2).1 = k5 ∧ afterL bs (ltpX L M) s = s3 := by
  rw [ltp_is, h1.read]
  show (k4 : Int) = k4 ∧ (readW bs (symX (icdfL 6) 0) sC).1 = k5 ∧ (readW bs (symX (icdfL 6) 0) sC).2 = s3
  rw [h2.read]
  exact ⟨rfl, rfl, rfl⟩

end Go.Proofs.YtnmfbjpbhghgaaaDoor
