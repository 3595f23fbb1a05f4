/- The document's own taker of bytes: a length taken; some bytes taken. -/
import Derived.Test.YtgiellpepnbpcaaDoorTocZa
namespace Go.Proofs.YtgiellpepnbpcaaDoor
open Go.RowKit

/-- At block g lies the taker, with r left of the bytes bs. -/
def TkB (w : World) (g : Nat) (a0 : Option Addr) (n0 c0 : Nat) (bs : List Nat) (bad : Bool) (r : List Nat) : Prop := ∃ a n c, Tk w g a n c bad ∧ Sub a0 n0 c0 bs a n c r

/-- What a length comes to. -/
def LenR (g : Nat) (a0 : Option Addr) (n0 c0 : Nat) (bs : List Nat) (bad : Bool) (r : List Nat) (e : Ending) (w' : World) : Prop :=
  match takeLen r with
  | some (n, r') => e = .returned (.int .i64 (n : Nat)) ∧ TkB w' g a0 n0 c0 bs bad r'
  | none => ∃ (v : Nat) (r' : List Nat), e = .returned (.int .i64 (v : Nat)) ∧ TkB w' g a0 n0 c0 bs true r' ∧ v ≤ 2000

theorem LenR.yes {g : Nat} {a0 : Option Addr} {n0 c0 : Nat} {bs : List Nat} {bad : Bool} {r r' : List Nat} {n : Nat} {w' : World} (h : takeLen r = some (n, r')) {z : Int} (hz : z = (n : Nat)) (ht : TkB w' g a0 n0 c0 bs bad r') : LenR g a0 n0 c0 bs bad r (.returned (.int .i64 z)) w' := by
  unfold LenR; rw [h, hz]; exact ⟨rfl, ht⟩
theorem LenR.no {g : Nat} {a0 : Option Addr} {n0 c0 : Nat} {bs : List Nat} {bad : Bool} {r r' : List Nat} {w' : World} (h : takeLen r = none) {z : Int} (v : Nat) (hz : z = (v : Nat)) (hv : v ≤ 2000) (ht : TkB w' g a0 n0 c0 bs true r') : LenR g a0 n0 c0 bs bad r (.returned (.int .i64 z)) w' := by
  unfold LenR; rw [h, hz]; exact ⟨v, r', rfl, ht, hv⟩

set_option maxHeartbeats 1000000 in
theorem length_nil (g : Nat) (a : Option Addr) (n c : Nat) (bad : Bool)  (w : World) (h : Tk w g a n c bad) (hb : Bs w a n c ([]))  :
    Calls Tryd.prog 34 #[.pointer (some ⟨g, 0, none⟩)] w fun e w' => LenR g a n c ([]) bad ([]) e w' ∧ Only g w w' := by
  have HT : Hid (Tk w g a n c bad) := h
  have HB : Hid (Bs w a n c ([])) := hb
  obtain rfl : n = 0 := by have := hb.len; simp at this; omega
  clear h hb 
  go_enter Tryd.func34, Tryd.ntmps34
  go_wp2_with (first
    | (go_at_call 32; go_loud (refine (one_nil g a c bad _ HT.out).mono ?_; rintro e w1 ⟨rfl, ht1, ho1⟩; obtain ⟨p0, p1⟩ := ht1.cells; have HT1 : Hid (Tk w1 g a 0 c true) := ht1; have HO1 : Hid (Only g w w1) := ho1; clear ht1 ho1)))
  go_ret
  exact ⟨.no rfl 0 rfl (by omega) ⟨_, _, _, HT1.out, Sub.refl _ _ _ _⟩, HO1.out⟩

set_option maxHeartbeats 1000000 in
theorem length_low (g : Nat) (a : Option Addr) (n c : Nat) (bad : Bool) (x : Nat) (r : List Nat) (w : World) (h : Tk w g a n c bad) (hb : Bs w a n c (x :: r)) (h1 : x < 252) (h2 : x ≤ r.length) :
    Calls Tryd.prog 34 #[.pointer (some ⟨g, 0, none⟩)] w fun e w' => LenR g a n c (x :: r) bad (x :: r) e w' ∧ Only g w w' := by
  have HT : Hid (Tk w g a n c bad) := h
  have HB : Hid (Bs w a n c (x :: r)) := hb
  obtain ⟨q, HQ⟩ : ∃ q, Hid (r.length = q) := ⟨_, rfl⟩
  have hx : x < 256 := hb.row.small x (by simp)
  have b0 : (0 : Int) ≤ x := by omega
  have b2 : x ≤ 255 := by omega
  have y1 : Hid True := trivial
  have b1 : ((252 : Int) ≤ x) = False := eq_false (by omega)
  have HL : Hid (takeLen (x :: r) = some (x, r)) := (by show (if x < 252 then (if x ≤ r.length then some (x, r) else none) else _) = _; rw [if_pos h1, if_pos h2])
  have b3 : ((q : Int) < x) = False := eq_false (by have := HQ.out; omega)
  have b4 : (q < x) = False := eq_false (by have := HQ.out; omega)
  clear h hb h1 h2 hx
  go_enter Tryd.func34, Tryd.ntmps34
  go_wp2_with (first
    | (go_at_call 32; clear y1; go_loud (refine (one_cons g a n c bad x r _ HT.out HB.out).mono ?_; rintro e w1 ⟨rfl, ⟨a1, n1, c1, ht1, hs1⟩, ho1⟩; obtain rfl : n1 = q := (by have h8 := (hs1 _ HB.out).len; have h9 := HQ.out; omega); obtain ⟨p0, p1⟩ := ht1.cells; obtain ⟨f0, f1⟩ := ht1.frozen; have HT1 : Hid (Tk w1 g a1 n1 c1 bad) := ht1; have HS1 : Hid (Sub a n c (x :: r) a1 n1 c1 r) := hs1; have HO1 : Hid (Only g w w1) := ho1; clear ht1 hs1 ho1)))
  go_ret
  exact ⟨.yes HL.out rfl ⟨_, _, _, HT1.out, HS1.out⟩, HO1.out⟩

set_option maxHeartbeats 1000000 in
theorem length_lowbad (g : Nat) (a : Option Addr) (n c : Nat) (bad : Bool) (x : Nat) (r : List Nat) (w : World) (h : Tk w g a n c bad) (hb : Bs w a n c (x :: r)) (h1 : x < 252) (h2 : ¬ x ≤ r.length) :
    Calls Tryd.prog 34 #[.pointer (some ⟨g, 0, none⟩)] w fun e w' => LenR g a n c (x :: r) bad (x :: r) e w' ∧ Only g w w' := by
  have HT : Hid (Tk w g a n c bad) := h
  have HB : Hid (Bs w a n c (x :: r)) := hb
  obtain ⟨q, HQ⟩ : ∃ q, Hid (r.length = q) := ⟨_, rfl⟩
  have hx : x < 256 := hb.row.small x (by simp)
  have b0 : (0 : Int) ≤ x := by omega
  have b2 : x ≤ 255 := by omega
  have y1 : Hid True := trivial
  have b1 : ((252 : Int) ≤ x) = False := eq_false (by omega)
  have HL : Hid (takeLen (x :: r) = none) := (by show (if x < 252 then (if x ≤ r.length then some (x, r) else none) else _) = _; rw [if_pos h1, if_neg h2])
  have b3 : ((q : Int) < x) = True := eq_true (by have := HQ.out; omega)
  have b4 : (q < x) = True := eq_true (by have := HQ.out; omega)
  clear h hb h1 h2 hx
  go_enter Tryd.func34, Tryd.ntmps34
  go_wp2_with (first
    | (go_at_call 32; clear y1; go_loud (refine (one_cons g a n c bad x r _ HT.out HB.out).mono ?_; rintro e w1 ⟨rfl, ⟨a1, n1, c1, ht1, hs1⟩, ho1⟩; obtain rfl : n1 = q := (by have h8 := (hs1 _ HB.out).len; have h9 := HQ.out; omega); obtain ⟨p0, p1⟩ := ht1.cells; obtain ⟨f0, f1⟩ := ht1.frozen; have HT1 : Hid (Tk w1 g a1 n1 c1 bad) := ht1; have HS1 : Hid (Sub a n c (x :: r) a1 n1 c1 r) := hs1; have HO1 : Hid (Only g w w1) := ho1; clear ht1 hs1 ho1)))
  go_ret
  exact ⟨.no HL.out x rfl (by omega) ⟨_, _, _, HT1.out.set1 true, HS1.out⟩, HO1.out.set 1 _⟩

set_option maxHeartbeats 1000000 in
theorem length_end (g : Nat) (a : Option Addr) (n c : Nat) (bad : Bool) (x : Nat) (w : World) (h : Tk w g a n c bad) (hb : Bs w a n c ([x])) (h1 : ¬ x < 252) :
    Calls Tryd.prog 34 #[.pointer (some ⟨g, 0, none⟩)] w fun e w' => LenR g a n c ([x]) bad ([x]) e w' ∧ Only g w w' := by
  have HT : Hid (Tk w g a n c bad) := h
  have HB : Hid (Bs w a n c ([x])) := hb
  have hx : x < 256 := hb.row.small x (by simp)
  have b0 : (0 : Int) ≤ x := by omega
  have b2 : x ≤ 255 := by omega
  have b5 : ((0 : Int) < x) = True := eq_true (by omega)
  have b6 : (0 < x) = True := eq_true (by omega)
  have y1 : Hid True := trivial
  have b1 : ((252 : Int) ≤ x) = True := eq_true (by omega)
  have HL : Hid (takeLen [x] = none) := if_neg h1
  clear h hb h1 hx
  go_enter Tryd.func34, Tryd.ntmps34
  go_wp2_with (first
    | (go_at_call 32; clear y1; go_loud (refine (one_cons g a n c bad x [] _ HT.out HB.out).mono ?_; rintro e w1 ⟨rfl, ⟨a1, n1, c1, ht1, hs1⟩, ho1⟩; obtain rfl : n1 = 0 := (by have h8 := (hs1 _ HB.out).len; simp at h8; omega); have HT1 : Hid (Tk w1 g a1 0 c1 bad) := ht1; have HS1 : Hid (Sub a n c [x] a1 0 c1 []) := hs1; have HO1 : Hid (Only g w w1) := ho1; clear ht1 hs1 ho1))
    | (go_at_call 32; go_loud (refine (one_nil g a1 c1 bad _ HT1.out).mono ?_; rintro e w2 ⟨rfl, ht2, ho2⟩; obtain ⟨p0, p1⟩ := ht2.cells; obtain ⟨f0, f1⟩ := ht2.frozen; have HT2 : Hid (Tk w2 g a1 0 c1 true) := ht2; have HO2 : Hid (Only g w w2) := HO1.out.trans ho2; clear ht2 ho2)))
  go_ret
  exact ⟨.no HL.out x (by omega) (by omega) ⟨_, _, _, HT2.out.set1 true, HS1.out⟩, HO2.out.set 1 _⟩

end Go.Proofs.YtgiellpepnbpcaaDoor
