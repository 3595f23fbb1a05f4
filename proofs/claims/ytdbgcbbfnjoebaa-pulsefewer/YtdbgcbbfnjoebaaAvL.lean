/- Lists of writings, of any kind: what they do to the writer; what was written, if there is room, is told whole, and read back. Nothing here is of any program. -/
import Derived.Test.YtdbgcbbfnjoebaaRencA
import Derived.Test.YtdbgcbbfnjoebaaMB
namespace Go.Proofs.Ytdbgcbbfnjoebaa
open Go.RowKit

def avSym (t : List Int) (v : Int) : AV := ⟨0, v, 0, 0, t⟩
def avBits (n v : Int) : AV := ⟨2, v, n, 0, []⟩
def avUint (n v : Int) : AV := ⟨3, v, n, 0, []⟩

def writesA : List AV → Es → Es
  | [], s => s
  | x :: l, s => writesA l (writeA x s)

theorem writesA_append : ∀ (l m : List AV) (s : Es), writesA (l ++ m) s = writesA m (writesA l s)
  | [], _, _ => rfl
  | x :: l, m, s => writesA_append l m (writeA x s)

theorem writesA_step : ∀ (l : List AV) (s : Es) (k : Nat) (x : AV), l[k]? = some x → writesA (l.take (k + 1)) s = writeA x (writesA (l.take k) s)
  | [], _, _, _, h => by simp at h
  | y :: l, s, 0, x, h => by
    obtain rfl : y = x := by simpa using h
    rfl
  | y :: l, s, k + 1, x, h => by
    have h' : l[k]? = some x := by simpa using h
    exact writesA_step l (writeA y s) k x h'

theorem writesA_inv : ∀ (l : List AV) (s : Es), (∀ x ∈ l, mayA x) → InvE s → InvE (writesA l s) ∧ (writesA l s).cnt ≤ s.cnt + 48 * l.length
  | [], _, _, hi => ⟨hi, Nat.le_refl _⟩
  | x :: l, s, ho, hi => by
    have h2 := writeA_cnt x (ho x (by simp)) s
    obtain ⟨h3, h4⟩ := writesA_inv l (writeA x s) (fun y hy => ho y (by simp [hy])) (writeA_inv (ho x (by simp)) hi)
    refine ⟨h3, ?_⟩
    show (writesA l (writeA x s)).cnt ≤ _
    rw [List.length_cons]
    omega

theorem writesA_wrote : ∀ (l : List AV) {s : Es} {e : Sp} {R V : Nat}, (∀ x ∈ l, mayA x) → InvE s → SpOk e → Wrote e R V s → Wrote (spansL (l.map wrA) e) (R + rawsN (l.map wrA)) (V + rawsV (l.map wrA) * 2 ^ R) (writesA l s)
  | [], s, e, R, V, _, _, _, hw => by
    show Wrote e (R + 0) (V + 0 * 2 ^ R) s
    rw [Nat.zero_mul]
    exact hw
  | x :: l, s, e, R, V, ho, hi, he, hw => by
    have hx := ho x (by simp)
    have h1 := writeA_wrote hx hi he hw
    have h2 := writesA_wrote l (fun y hy => ho y (by simp [hy])) (writeA_inv hx hi) (spanW_ok (okW_of hx) he) h1
    show Wrote (spansL (l.map wrA) (spanW (wrA x) e)) (R + (rawN (wrA x) + rawsN (l.map wrA))) (V + (rawV (wrA x) + rawsV (l.map wrA) * 2 ^ rawN (wrA x)) * 2 ^ R) (writesA l (writeA x s))
    rw [← Nat.add_assoc, Nat.add_mul, Nat.mul_assoc, ← Nat.pow_add, Nat.add_comm (rawN (wrA x)) R, ← Nat.add_assoc]
    exact h2

theorem okWs_of {l : List AV} (ho : ∀ x ∈ l, mayA x) : ∀ x ∈ l.map wrA, okW x := fun x hx => by
  obtain ⟨y, hy, rfl⟩ := List.mem_map.1 hx
  exact okW_of (ho y hy)

theorem tell_manyA : ∀ (l : List AV) (e : Sp) (R : Nat), (∀ x ∈ l, mayA x) → SpOk e → tellE e R ≤ tellE (spansL (l.map wrA) e) (R + rawsN (l.map wrA)) ∧ tellE (spansL (l.map wrA) e) (R + rawsN (l.map wrA)) ≤ tellE e R + 48 * l.length
  | [], e, R, _, _ => by show tellE e R ≤ tellE e (R + 0) ∧ tellE e (R + 0) ≤ _; simp
  | x :: l, e, R, ho, he => by
    have hx := okW_of (ho x (by simp))
    have h0 := spanW_tell hx he R
    have h1 := spanW_grows hx he R
    obtain ⟨h2, h3⟩ := tell_manyA l (spanW (wrA x) e) (R + rawN (wrA x)) (fun y hy => ho y (by simp [hy])) (spanW_ok hx he)
    show tellE e R ≤ tellE (spansL (l.map wrA) (spanW (wrA x) e)) (R + (rawN (wrA x) + rawsN (l.map wrA))) ∧ tellE (spansL (l.map wrA) (spanW (wrA x) e)) (R + (rawN (wrA x) + rawsN (l.map wrA))) ≤ _
    rw [← Nat.add_assoc, List.length_cons]
    omega

/-- A writer that has written l, from the beginning. -/
structure ByA (l : List AV) (s : Es) : Prop where
  is : s = writesA l initE
  may : ∀ x ∈ l, mayA x
  inv : InvE s
  cnt : s.cnt ≤ 33 + 48 * l.length
  wrote : Wrote (spansL (l.map wrA) startE) (rawsN (l.map wrA)) (rawsV (l.map wrA)) s
  low : 1 ≤ tellS s
  high : tellS s ≤ 1 + 48 * l.length

theorem byA {l : List AV} (ho : ∀ x ∈ l, mayA x) : ByA l (writesA l initE) := by
  have hw := writesA_wrote l ho initE_inv startE_ok initE_wrote
  obtain ⟨hi, hc⟩ := writesA_inv l initE ho initE_inv
  obtain ⟨t1, t2⟩ := tell_manyA l startE 0 ho startE_ok
  rw [Nat.zero_add] at hw t1 t2
  rw [Nat.zero_add, Nat.pow_zero, Nat.mul_one] at hw
  have h0 : tellE startE 0 = 1 := by decide +kernel
  have e := tellS_is hw
  have hc0 : initE.cnt = 33 := by decide
  exact ⟨rfl, ho, hi, by omega, hw, by omega, by omega⟩

/-- Where n bytes are enough, they are told whole, and all is read back out of them. -/
theorem ByA.told {l : List AV} {s : Es} (h : ByA l s) {n : Nat} (hn : n ≤ 1275) (ht : tellS s ≤ 8 * (n : Int)) :
    Ends s n ∧ Bytes (doneL s n) ∧ AllRead (doneL s n) (tellS s) (l.map wrA) (initS (doneL s n)) ∧ tellZ (afterL (doneL s n) (l.map wrA) (initS (doneL s n))) = tellS s ∧ Inv (afterL (doneL s n) (l.map wrA) (initS (doneL s n))) := by
  have hs := spansL_ok (okWs_of h.may) startE_ok
  have e := tellS_is h.wrote
  have ht2 := ht
  rw [e] at ht2
  obtain ⟨d1, d2, d3⟩ := done_back h.inv h.wrote hs hn ht2
  obtain ⟨r1, r2, r3⟩ := written_read d1 (okWs_of h.may) d2 d3
  exact ⟨(ends_of h.inv h.wrote hs hn ht2).1, d1, by rw [e]; exact r1, by rw [e]; exact r2, r3⟩

/-! ### What is read -/
theorem afterL_append (b : List Nat) : ∀ (l m : List Wr) (s : St), afterL b (l ++ m) s = afterL b m (afterL b l s)
  | [], _, _ => rfl
  | x :: l, m, s => afterL_append b l m (readW b x s).2

theorem readW_same (b : List Nat) {x y : Wr} (h1 : x.op = y.op) (h2 : x.n = y.n) (h3 : x.m = y.m) (h4 : x.t = y.t) (s : St) : readW b x s = readW b y s := by
  unfold readW
  rw [h1, h2, h3, h4]

/-- One thing at the head of what is read. -/
theorem AllRead.head {b : List Nat} {T : Int} {x : AV} {l : List AV} {s : St} (h : AllRead b T ((x :: l).map wrA) s) :
    (readW b (wrA x) s).1 = (wrA x).v ∧ Inv (readW b (wrA x) s).2 ∧ (readW b (wrA x) s).2.bad = false ∧ tellZ (readW b (wrA x) s).2 ≤ T ∧ AllRead b T (l.map wrA) (readW b (wrA x) s).2 := h

theorem wrA_v {x : AV} (h1 : x.op ≠ 1) (h4 : x.op ≠ 4) : (wrA x).v = x.v := by
  show (if x.op = 1 then _ else if x.op = 4 then _ else x.v) = _
  rw [if_neg h1, if_neg h4]

theorem avSym_v (t : List Int) (v : Int) : (wrA (avSym t v)).v = v := wrA_v (x := avSym t v) (show (0 : Int) ≠ 1 by decide) (show (0 : Int) ≠ 4 by decide)
theorem avBits_v (n v : Int) : (wrA (avBits n v)).v = v := wrA_v (x := avBits n v) (show (2 : Int) ≠ 1 by decide) (show (2 : Int) ≠ 4 by decide)
theorem avUint_v (n v : Int) : (wrA (avUint n v)).v = v := wrA_v (x := avUint n v) (show (3 : Int) ≠ 1 by decide) (show (3 : Int) ≠ 4 by decide)

/-- What is read does not hang on the value that was written. -/
def rdSym (b : List Nat) (t : List Int) (s : St) : Int × St := ((((symS b t s).1 : Nat) : Int), (symS b t s).2)
def rdBits (b : List Nat) (n : Int) (s : St) : Int × St := ((((bitsS b n s).1 : Nat) : Int), (bitsS b n s).2)
def rdUint (b : List Nat) (n : Int) (s : St) : Int × St := ((((uintS b n s).1 : Nat) : Int), (uintS b n s).2)

theorem readW_avSym (b : List Nat) (t : List Int) (v : Int) (s : St) : readW b (wrA (avSym t v)) s = rdSym b t s := by
  unfold readW
  have h : (wrA (avSym t v)).op = 0 := rfl
  rw [if_pos h]
  rfl
theorem readW_avBits (b : List Nat) (n v : Int) (s : St) : readW b (wrA (avBits n v)) s = rdBits b n s := by
  unfold readW
  have h : (wrA (avBits n v)).op = 2 := rfl
  rw [if_neg (by omega), if_neg (by omega), if_pos h]
  rfl
theorem readW_avUint (b : List Nat) (n v : Int) (s : St) : readW b (wrA (avUint n v)) s = rdUint b n s := by
  unfold readW
  have h : (wrA (avUint n v)).op = 3 := rfl
  rw [if_neg (by omega), if_neg (by omega), if_neg (by omega), if_pos h]
  rfl

theorem rdSym_cnt (b : List Nat) (t : List Int) (s : St) : (rdSym b t s).2.cnt ≤ s.cnt + 60 := by
  show (symS b t s).2.cnt ≤ _
  unfold symS
  split
  · have := takeS_cnt b s (256 - (symGo (chooseS s 256 : Nat) 0 256 t).2.1).toNat (256 - (symGo (chooseS s 256 : Nat) 0 256 t).2.2).toNat 256
    show (takeS b s (256 - (symGo (chooseS s 256 : Nat) 0 256 t).2.1).toNat (256 - (symGo (chooseS s 256 : Nat) 0 256 t).2.2).toNat 256).cnt ≤ _
    omega
  · show s.cnt ≤ _; omega

theorem rdBits_cnt (b : List Nat) (n : Int) (s : St) : (rdBits b n s).2.cnt ≤ s.cnt + 60 := by
  show (bitsS b n s).2.cnt ≤ _
  unfold bitsS
  split
  · show _ + _ ≤ _; omega
  · show s.cnt ≤ _; omega

theorem rdUint_cnt (b : List Nat) (n : Int) (s : St) : (rdUint b n s).2.cnt ≤ s.cnt + 60 := by
  show (uintS b n s).2.cnt ≤ _
  unfold uintS
  split
  · show s.cnt ≤ _; omega
  · split
    · have := takeS_cnt b s (chooseS s n.toNat) (chooseS s n.toNat + 1) n.toNat
      show (takeS b s (chooseS s n.toNat) (chooseS s n.toNat + 1) n.toNat).cnt ≤ _
      omega
    · rename_i h1 h2
      obtain ⟨_, s2, _, _⟩ := shift_in (ft := n.toNat) (by omega) (by omega)
      have h3 := takeS_cnt b s (chooseS s (partN n.toNat)) (chooseS s (partN n.toNat) + 1) (partN n.toNat)
      have h4 : (bitsS b (shiftN n.toNat : Nat) (takeS b s (chooseS s (partN n.toNat)) (chooseS s (partN n.toNat) + 1) (partN n.toNat))).2.cnt ≤ (takeS b s (chooseS s (partN n.toNat)) (chooseS s (partN n.toNat) + 1) (partN n.toNat)).cnt + 24 := by
        unfold bitsS
        split
        · show _ + _ ≤ _; omega
        · show _ ≤ _; omega
      rw [uintBig_eq]
      split
      · show (bitsS b (shiftN n.toNat : Nat) (takeS b s (chooseS s (partN n.toNat)) (chooseS s (partN n.toNat) + 1) (partN n.toNat))).2.cnt ≤ _; omega
      · show (bitsS b (shiftN n.toNat : Nat) (takeS b s (chooseS s (partN n.toNat)) (chooseS s (partN n.toNat) + 1) (partN n.toNat))).2.cnt ≤ _; omega

theorem rdUint_in {b : List Nat} (hb : Bytes b) {n : Int} (hn : 1 ≤ n) {s : St} (hi : Inv s) : 0 ≤ (rdUint b n s).1 ∧ (rdUint b n s).1 < n ∧ Inv (rdUint b n s).2 ∧ tellZ s ≤ tellZ (rdUint b n s).2 := by
  obtain ⟨h1, h2, h3, _⟩ := uintS_inv hb hi n
  exact ⟨Int.natCast_nonneg _, h3 hn, h1, h2⟩

theorem rdBits_in (b : List Nat) {n : Int} {s : St} (hi : Inv s) : 0 ≤ (rdBits b n s).1 ∧ Inv (rdBits b n s).2 ∧ tellZ s ≤ tellZ (rdBits b n s).2 := by
  obtain ⟨h1, h2, _⟩ := bitsS_inv b hi n
  exact ⟨Int.natCast_nonneg _, h1, h2⟩

theorem rdSym_in {b : List Nat} (hb : Bytes b) {t : List Int} (hg : goodB t = true) {s : St} (hi : Inv s) : 0 ≤ (rdSym b t s).1 ∧ (rdSym b t s).1 < t.length ∧ Inv (rdSym b t s).2 ∧ tellZ s ≤ tellZ (rdSym b t s).2 := by
  obtain ⟨h1, h2, h3, _⟩ := symS_inv hb hi t
  have := h3 hg
  exact ⟨Int.natCast_nonneg _, by show (((symS b t s).1 : Nat) : Int) < _; omega, h1, h2⟩

end Go.Proofs.Ytdbgcbbfnjoebaa
