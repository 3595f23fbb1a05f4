/- The document's own taker of bytes: a long length taken; any length taken; some bytes taken. -/
import Derived.Test.YtgiellpepnbpcaaDoorTocZb
import Derived.Test.YtgiellpepnbpcaaDoorTocXa
namespace Go.Proofs.YtgiellpepnbpcaaDoor
open Go.RowKit

set_option maxHeartbeats 1000000 in
theorem length_high (g : Nat) (a : Option Addr) (n c : Nat) (bad : Bool) (x m : Nat) (r : List Nat) (w0 w : World) (h : Tk w g a n c bad) (hb0 : Bs w0 a n c (x :: m :: r)) (hB : Below w0.heap.size w0 w) (hg : w0.heap.size ≤ g) (h1 : ¬ x < 252) (h2 : x + 4 * m ≤ r.length) :
    Calls Tryd.prog 34 #[.pointer (some ⟨g, 0, none⟩)] w fun e w' => LenR g a n c (x :: m :: r) bad (x :: m :: r) e w' ∧ Only g w w' := by
  have HT : Hid (Tk w g a n c bad) := h
  have HB0 : Hid (Bs w0 a n c (x :: m :: r)) := hb0
  have HB : Hid (Below w0.heap.size w0 w) := hB
  have HG : Hid (w0.heap.size ≤ g) := hg
  obtain ⟨q, HQ⟩ : ∃ q, Hid (r.length = q) := ⟨_, rfl⟩
  have hx : x < 256 := hb0.row.small x (by simp)
  have hm : m < 256 := hb0.row.small m (by simp)
  have b0 : (0 : Int) ≤ x := by omega
  have b2 : x ≤ 255 := by omega
  have b7 : (0 : Int) ≤ m := by omega
  have b8 : m ≤ 255 := by omega
  have b1 : ((252 : Int) ≤ x) = True := eq_true (by omega)
  have HL : Hid (takeLen (x :: m :: r) = some (x + 4 * m, r)) := (by show (if x < 252 then _ else (if x + 4 * m ≤ r.length then some (x + 4 * m, r) else none)) = _; rw [if_neg h1, if_pos h2])
  have b3 : ((q : Int) < (x : Int) + 4 * (m : Int)) = False := eq_false (by have := HQ.out; omega)
  have b4 : (q < x + 4 * m) = False := eq_false (by have := HQ.out; omega)
  have y1 : Hid True := trivial
  clear h hb0 hB hg h1 h2 hx hm
  go_enter Tryd.func34, Tryd.ntmps34
  go_wp2_with (first
    | (go_at_call 32; clear y1; go_loud (refine (one_cons g a n c bad x (m :: r) _ HT.out (HB0.out.keep HB.out)).mono ?_; rintro e w1 ⟨rfl, ⟨a1, n1, c1, ht1, hs1⟩, ho1⟩; have HB1 : Hid (Below w0.heap.size w0 w1) := HB.out.trans (ho1.below HG.out HT.out.lt); have HT1 : Hid (Tk w1 g a1 n1 c1 bad) := ht1; have HS1 : Hid (Sub a n c (x :: m :: r) a1 n1 c1 (m :: r)) := hs1; have HO1 : Hid (Only g w w1) := ho1; clear ht1 hs1 ho1))
    | (go_at_call 32; go_loud (refine (one_cons g a1 n1 c1 bad m r _ HT1.out ((HS1.out _ HB0.out).keep HB1.out)).mono ?_; rintro e w2 ⟨rfl, ⟨a2, n2, c2, ht2, hs2⟩, ho2⟩; obtain rfl : n2 = q := (by have h8 := (hs2 _ (HS1.out _ HB0.out)).len; have h9 := HQ.out; omega); obtain ⟨p0, p1⟩ := ht2.cells; obtain ⟨f0, f1⟩ := ht2.frozen; have HT2 : Hid (Tk w2 g a2 n2 c2 bad) := ht2; have HS2 : Hid (Sub a n c (x :: m :: r) a2 n2 c2 r) := HS1.out.trans hs2; have HO2 : Hid (Only g w w2) := HO1.out.trans ho2; clear ht2 hs2 ho2)))
  go_ret
  exact ⟨.yes HL.out (by omega) ⟨_, _, _, HT2.out, HS2.out⟩, HO2.out⟩

set_option maxHeartbeats 1000000 in
theorem length_highbad (g : Nat) (a : Option Addr) (n c : Nat) (bad : Bool) (x m : Nat) (r : List Nat) (w0 w : World) (h : Tk w g a n c bad) (hb0 : Bs w0 a n c (x :: m :: r)) (hB : Below w0.heap.size w0 w) (hg : w0.heap.size ≤ g) (h1 : ¬ x < 252) (h2 : ¬ x + 4 * m ≤ r.length) :
    Calls Tryd.prog 34 #[.pointer (some ⟨g, 0, none⟩)] w fun e w' => LenR g a n c (x :: m :: r) bad (x :: m :: r) e w' ∧ Only g w w' := by
  have HT : Hid (Tk w g a n c bad) := h
  have HB0 : Hid (Bs w0 a n c (x :: m :: r)) := hb0
  have HB : Hid (Below w0.heap.size w0 w) := hB
  have HG : Hid (w0.heap.size ≤ g) := hg
  obtain ⟨q, HQ⟩ : ∃ q, Hid (r.length = q) := ⟨_, rfl⟩
  have hx : x < 256 := hb0.row.small x (by simp)
  have hm : m < 256 := hb0.row.small m (by simp)
  have b0 : (0 : Int) ≤ x := by omega
  have b2 : x ≤ 255 := by omega
  have b7 : (0 : Int) ≤ m := by omega
  have b8 : m ≤ 255 := by omega
  have b1 : ((252 : Int) ≤ x) = True := eq_true (by omega)
  have HL : Hid (takeLen (x :: m :: r) = none) := (by show (if x < 252 then _ else (if x + 4 * m ≤ r.length then some (x + 4 * m, r) else none)) = _; rw [if_neg h1, if_neg h2])
  have b3 : ((q : Int) < (x : Int) + 4 * (m : Int)) = True := eq_true (by have := HQ.out; omega)
  have b4 : (q < x + 4 * m) = True := eq_true (by have := HQ.out; omega)
  have y1 : Hid True := trivial
  clear h hb0 hB hg h1 h2 hx hm
  go_enter Tryd.func34, Tryd.ntmps34
  go_wp2_with (first
    | (go_at_call 32; clear y1; go_loud (refine (one_cons g a n c bad x (m :: r) _ HT.out (HB0.out.keep HB.out)).mono ?_; rintro e w1 ⟨rfl, ⟨a1, n1, c1, ht1, hs1⟩, ho1⟩; have HB1 : Hid (Below w0.heap.size w0 w1) := HB.out.trans (ho1.below HG.out HT.out.lt); have HT1 : Hid (Tk w1 g a1 n1 c1 bad) := ht1; have HS1 : Hid (Sub a n c (x :: m :: r) a1 n1 c1 (m :: r)) := hs1; have HO1 : Hid (Only g w w1) := ho1; clear ht1 hs1 ho1))
    | (go_at_call 32; go_loud (refine (one_cons g a1 n1 c1 bad m r _ HT1.out ((HS1.out _ HB0.out).keep HB1.out)).mono ?_; rintro e w2 ⟨rfl, ⟨a2, n2, c2, ht2, hs2⟩, ho2⟩; obtain rfl : n2 = q := (by have h8 := (hs2 _ (HS1.out _ HB0.out)).len; have h9 := HQ.out; omega); obtain ⟨p0, p1⟩ := ht2.cells; obtain ⟨f0, f1⟩ := ht2.frozen; have HT2 : Hid (Tk w2 g a2 n2 c2 bad) := ht2; have HS2 : Hid (Sub a n c (x :: m :: r) a2 n2 c2 r) := HS1.out.trans hs2; have HO2 : Hid (Only g w w2) := HO1.out.trans ho2; clear ht2 hs2 ho2)))
  go_ret
  exact ⟨.no HL.out (x + 4 * m) (by omega) (by omega) ⟨_, _, _, HT2.out.set1 true, HS2.out⟩, HO2.out.set 1 _⟩

theorem TkB.base {w : World} {g : Nat} {a0 : Option Addr} {n0 c0 : Nat} {bs : List Nat} {a : Option Addr} {n c : Nat} {r r' : List Nat} {bad : Bool} (hs : Sub a0 n0 c0 bs a n c r) (h : TkB w g a n c r bad r') : TkB w g a0 n0 c0 bs bad r' := by
  obtain ⟨a1, n1, c1, h1, h2⟩ := h
  exact ⟨a1, n1, c1, h1, hs.trans h2⟩
theorem LenR.base {w : World} {g : Nat} {a0 : Option Addr} {n0 c0 : Nat} {bs : List Nat} {a : Option Addr} {n c : Nat} {r : List Nat} {bad : Bool} {e : Ending} (hs : Sub a0 n0 c0 bs a n c r) (h : LenR g a n c r bad r e w) : LenR g a0 n0 c0 bs bad r e w := by
  unfold LenR at h ⊢
  cases hq : takeLen r with
  | none =>
    rw [hq] at h
    obtain ⟨v, r', h1, h2, h3⟩ := h
    exact ⟨v, r', h1, h2.base hs, h3⟩
  | some p =>
    obtain ⟨m, r'⟩ := p
    rw [hq] at h
    obtain ⟨h1, h2⟩ := h
    exact ⟨h1, h2.base hs⟩

/-- The taker in a world that a call makes: the bytes lie below it. -/
structure Tak (w0 w : World) (g : Nat) (a0 : Option Addr) (n0 c0 : Nat) (bs : List Nat) (bad : Bool) (r : List Nat) : Prop where
  bytes : Bs w0 a0 n0 c0 bs
  below : Below w0.heap.size w0 w
  base : w0.heap.size ≤ g
  tk : TkB w g a0 n0 c0 bs bad r

theorem Tak.lt {w0 w : World} {g : Nat} {a0 : Option Addr} {n0 c0 : Nat} {bs : List Nat} {bad : Bool} {r : List Nat} (h : Tak w0 w g a0 n0 c0 bs bad r) : g < w.heap.size := by
  obtain ⟨a, n, c, h1, _⟩ := h.tk
  exact h1.lt
theorem Tak.step {w0 w w' : World} {g : Nat} {a0 : Option Addr} {n0 c0 : Nat} {bs : List Nat} {bad bad' : Bool} {r r' : List Nat} (h : Tak w0 w g a0 n0 c0 bs bad r) (ho : Only g w w') (ht : TkB w' g a0 n0 c0 bs bad' r') : Tak w0 w' g a0 n0 c0 bs bad' r' :=
  ⟨h.bytes, h.below.trans (ho.below h.base h.lt), h.base, ht⟩
/-- What it holds now. -/
theorem Tak.now {w0 w : World} {g : Nat} {a0 : Option Addr} {n0 c0 : Nat} {bs : List Nat} {bad : Bool} {r : List Nat} (h : Tak w0 w g a0 n0 c0 bs bad r) : ∃ a n c, n = r.length ∧ Tk w g a n c bad ∧ Sub a0 n0 c0 bs a n c r ∧ Bs w0 a n c r ∧ Bs w a n c r := by
  obtain ⟨a, n, c, h1, h2⟩ := h.tk
  have hb := h2 _ h.bytes
  exact ⟨a, n, c, hb.len.symm, h1, h2, hb, hb.keep h.below⟩
/-- Something else turned: a block q above the bytes that is not the taker's, or new ones. -/
theorem Tak.other {w0 w w' : World} {g q : Nat} {a0 : Option Addr} {n0 c0 : Nat} {bs : List Nat} {bad : Bool} {r : List Nat} (h : Tak w0 w g a0 n0 c0 bs bad r) (ho : Only q w w') (hq : w0.heap.size ≤ q) (hql : q < w.heap.size) (hne : g ≠ q) : Tak w0 w' g a0 n0 c0 bs bad r := by
  obtain ⟨a, n, c, h1, h2⟩ := h.tk
  exact ⟨h.bytes, h.below.trans (ho.below hq hql), h.base, a, n, c, h1.only ho hne, h2⟩
theorem Tak.keep {w0 w w' : World} {g : Nat} {a0 : Option Addr} {n0 c0 : Nat} {bs : List Nat} {bad : Bool} {r : List Nat} (h : Tak w0 w g a0 n0 c0 bs bad r) (hb : Below w.heap.size w w') : Tak w0 w' g a0 n0 c0 bs bad r := by
  obtain ⟨a, n, c, h1, h2⟩ := h.tk
  exact ⟨h.bytes, h.below.trans (hb.mono h.below.size), h.base, a, n, c, h1.keep hb, h2⟩

theorem length_any (g : Nat) (a0 : Option Addr) (n0 c0 : Nat) (bs : List Nat) (bad : Bool) (r : List Nat) (w0 w : World) (h : Tak w0 w g a0 n0 c0 bs bad r) :
    Calls Tryd.prog 34 #[.pointer (some ⟨g, 0, none⟩)] w fun e w' => LenR g a0 n0 c0 bs bad r e w' ∧ Only g w w' := by
  obtain ⟨a, n, c, _, ht, hs, hb0, hb⟩ := h.now
  refine Calls.mono (R := fun e w' => LenR g a n c r bad r e w' ∧ Only g w w') ?_ fun e w' hh => ⟨hh.1.base hs, hh.2⟩
  match r with
  | [] => exact length_nil g a n c bad w ht hb
  | [x] =>
    by_cases h1 : x < 252
    · by_cases h2 : x ≤ ([] : List Nat).length
      · exact length_low g a n c bad x [] w ht hb h1 h2
      · exact length_lowbad g a n c bad x [] w ht hb h1 h2
    · exact length_end g a n c bad x w ht hb h1
  | x :: m :: r =>
    by_cases h1 : x < 252
    · by_cases h2 : x ≤ (m :: r).length
      · exact length_low g a n c bad x (m :: r) w ht hb h1 h2
      · exact length_lowbad g a n c bad x (m :: r) w ht hb h1 h2
    · by_cases h2 : x + 4 * m ≤ r.length
      · exact length_high g a n c bad x m r w0 w ht hb0 h.below h.base h1 h2
      · exact length_highbad g a n c bad x m r w0 w ht hb0 h.below h.base h1 h2

/-- One byte, whatever is left. -/
theorem one_any (g : Nat) (a0 : Option Addr) (n0 c0 : Nat) (bs : List Nat) (bad : Bool) (r : List Nat) (w0 w : World) (h : Tak w0 w g a0 n0 c0 bs bad r) :
    Calls Tryd.prog 32 #[.pointer (some ⟨g, 0, none⟩)] w fun e w' => e = .returned (.int .i64 (r.head?.getD 0 : Nat)) ∧ Tak w0 w' g a0 n0 c0 bs (bad || r.isEmpty) r.tail ∧ Only g w w' := by
  obtain ⟨a, n, c, hn, ht, hs, hb0, hb⟩ := h.now
  match r with
  | [] =>
    obtain rfl : n = 0 := hn
    refine (one_nil g a c bad w ht).mono ?_
    rintro e w' ⟨rfl, h1, h2⟩
    exact ⟨rfl, h.step h2 ⟨_, _, _, by simpa using h1, hs⟩, h2⟩
  | x :: r =>
    refine (one_cons g a n c bad x r w ht hb).mono ?_
    rintro e w' ⟨rfl, ⟨a1, n1, c1, h1, h3⟩, h2⟩
    exact ⟨rfl, h.step h2 ⟨_, _, _, by simpa using h1, hs.trans h3⟩, h2⟩

set_option maxHeartbeats 1000000 in
theorem some_in (g : Nat) (a : Option Addr) (n c : Nat) (bad : Bool) (r : List Nat) (k : Nat) (w : World) (h : Tk w g a n c bad) (hb : Bs w a n c r) (hk : k ≤ n) :
    Calls Tryd.prog 33 #[.pointer (some ⟨g, 0, none⟩), .int .i64 (k : Nat)] w fun e w' => (∃ a8 c8, e = .returned (.slice a8 k c8) ∧ Ob w.heap.size w' (.slice a8 k c8) (r.take k)) ∧ (∃ a' n' c', Tk w' g a' n' c' bad ∧ Sub a n c r a' n' c' (r.drop k)) ∧ Only g w w' := by
  have HT : Hid (Tk w g a n c bad) := h
  have HB : Hid (Bs w a n c r) := hb
  obtain ⟨p0, p1⟩ := h.cells
  obtain ⟨f0, f1⟩ := h.frozen
  have pA : ∀ o, (w.alloc o).cell? ⟨g, 0, none⟩ = some (.slice a n c) := fun o => (World.cell?_of_block (w := w) (Below.heap_alloc w o _ h.lt)).trans p0
  obtain ⟨a2, n2, c2, hn2, hs2, hq1, hq2⟩ := hb.upto k k rfl hk
  obtain ⟨a3, n3, c3, hn3, hs3, hq3, hq4⟩ := hb.from_ k k rfl hk
  obtain rfl := hn2
  have HS2 : Hid (Sub a n c r a2 n2 c2 (r.take n2)) := hs2
  have HS3 : Hid (Sub a n c r a3 n3 c3 (r.drop n2)) := hs3
  have hsz := hb.size
  have hcap := hb.room
  have b0 : (0 : Int) ≤ n2 := by omega
  have b1 : ((n2 : Int) < 0) = False := eq_false (by omega)
  have b3 : ((n : Int) < n2) = False := eq_false (by omega)
  have b4 : (n < n2) = False := eq_false (by omega)
  have bx2 : (n2 : Int) ≤ n := by omega
  have bx3 : (n2 : Int) ≤ c := by omega
  clear h hb hk hs2 hs3 hn3 hcap
  go_enter Tryd.func33, Tryd.ntmps33
  go_wp2_with (at_builtin; go_loud (refine wpList_copy_bytes (w := w) a2 n2 c2 (r.take n2) (HS2.out _ HB.out) rfl _ _ rfl _ rfl rfl rfl ?_; intro a4 c4' w1 hown1 hb1; have HO : Hid (w1.ownsRow w.heap.size 5 1 (.slice a4 n2 c4') n2 (bvals (r.take n2))) := hown1; have HX1 : Hid (Below w.heap.size w w1) := hb1; have hT1 := HT.out.keep hb1; obtain ⟨z0, z1⟩ := hT1.cells; obtain ⟨e0, e1⟩ := hT1.frozen; have HT1 : Hid (Tk w1 g a n c bad) := hT1; clear hown1 hb1 hT1))
  go_ret
  exact ⟨⟨a4, c4', rfl, ob_cast (ownsRow_of_block HO.out fun k hk => Below.heap_setCell _ _ _ _ (by have h1 := (HO.out.lt k hk).1; have h2 := HT.out.lt; show k ≠ g; omega)) rfl (by have h8 := owned_len HO.out; omega)⟩, ⟨a3, n3, c3, HT1.out.set0 a3 n3 c3, HS3.out⟩, (Only.of HX1.out).set 0 _⟩

end Go.Proofs.YtgiellpepnbpcaaDoor
