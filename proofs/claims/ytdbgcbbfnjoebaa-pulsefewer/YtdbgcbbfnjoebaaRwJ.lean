/- The program's writer: its calls on whole numbers as they come; the examples that each law of chapter 4 asks first. -/
import Derived.Test.YtdbgcbbfnjoebaaRwI
namespace Go.Proofs.Ytdbgcbbfnjoebaa
open Go.RowKit

theorem symE_int (S : Nat → Prop) (p : Nat) (s : Es) (v : Int) (xo : Option Addr) (n cap : Nat) (zs : List Int) (w : World) (h : Wd S p s w) (hi : InvE s) (ht : RowAt w xo n zs) (hn : n ≤ 9223372036854775807) (hok : symOk zs v) (hc : s.cnt ≤ 1000000000000000) :
    Calls Try.prog 53 #[.pointer (some ⟨p, 0, none⟩), .int .i64 v, .slice xo n cap] w fun e w' => e = .returned (.int .i64 0) ∧ ∃ S', Wd S' p (takeE s (symFl zs v.toNat) (symFh zs v.toNat) 256) w' ∧ Went S w S' w' := by
  obtain ⟨h1, h2, h3⟩ := hok
  obtain ⟨m, rfl⟩ := Int.eq_ofNat_of_zero_le h2
  rw [Int.toNat_natCast]
  exact symE_any S p s m xo n cap zs w h hi ht hn h1 (by omega) hc

theorem bitsE_int (S : Nat → Prop) (p : Nat) (s : Es) (v n : Int) (w : World) (h : Wd S p s w) (hi : InvE s) (hn : 0 ≤ n ∧ n ≤ 24 ∧ 0 ≤ v ∧ v.toNat < 2 ^ n.toNat) (hc : s.cnt ≤ 1000000000000000) :
    Calls Try.prog 55 #[.pointer (some ⟨p, 0, none⟩), .int .i64 v, .int .i64 n] w fun e w' => e = .returned (.int .i64 0) ∧ ∃ S', Wd S' p (bitsE v.toNat n.toNat s) w' ∧ Went S w S' w' := by
  obtain ⟨h1, h2, h3, h4⟩ := hn
  obtain ⟨m, rfl⟩ := Int.eq_ofNat_of_zero_le h1
  obtain ⟨x, rfl⟩ := Int.eq_ofNat_of_zero_le h3
  rw [Int.toNat_natCast, Int.toNat_natCast] at *
  exact bitsE_any S p s x m w h hi (by omega) h4 hc

theorem uintE_int (S : Nat → Prop) (p : Nat) (s : Es) (v ft : Int) (w : World) (h : Wd S p s w) (hi : InvE s) (hn : 1 ≤ ft ∧ ft ≤ 4294967295 ∧ 0 ≤ v ∧ v < ft) (hc : s.cnt ≤ 100000000000000) :
    Calls Try.prog 72 #[.pointer (some ⟨p, 0, none⟩), .int .i64 v, .int .i64 ft] w fun e w' => e = .returned (.int .i64 0) ∧ ∃ S', Wd S' p (uintEs v.toNat ft.toNat s) w' ∧ Went S w S' w' := by
  obtain ⟨h1, h2, h3, h4⟩ := hn
  obtain ⟨m, rfl⟩ := Int.eq_ofNat_of_zero_le (show 0 ≤ ft by omega)
  obtain ⟨x, rfl⟩ := Int.eq_ofNat_of_zero_le h3
  rw [Int.toNat_natCast, Int.toNat_natCast]
  exact uintE_any S p s x m w h hi (by omega) (by omega) hc

theorem doneE_int (S : Nat → Prop) (p : Nat) (s : Es) (n : Int) (m : Nat) (hm : n = m) (w : World) (h : Wd S p s w) (he : Ends s m) (ht : tellS s ≤ 8 * (m : Int)) (hc : s.cnt ≤ 1000000000000000) :
    Calls Try.prog 23 #[.pointer (some ⟨p, 0, none⟩), .int .i64 n] w fun e w' => ∃ a cap, e = .returned (.tuple #[.slice a m cap, .int .i64 0]) ∧ w'.ownsRow w.heap.size 5 1 (.slice a m cap) m (bvals (doneL s m)) ∧ Below w.heap.size w w' := by
  subst hm
  exact doneE_any S p s m w h he ht hc

theorem doneE_few_int (S : Nat → Prop) (p : Nat) (s : Es) (n : Int) (m : Nat) (hm : n = m) (w : World) (h : Wd S p s w) (hi : InvE s) (hn : m ≤ 1275) (ht : 8 * (m : Int) < tellS s) (hc : s.cnt ≤ 1000000000000000) :
    Calls Try.prog 23 #[.pointer (some ⟨p, 0, none⟩), .int .i64 n] w fun e w' => e = .returned (.tuple #[.slice none 0 0, .int .i64 2]) ∧ ∃ k, w' = w.drewN k := by
  subst hm
  exact doneE_few S p s m w h hi hn ht hc

/-- Another's blocks stay another's. -/
theorem Went.apart {S S' T : Nat → Prop} {w w' : World} (h : Went S w S' w') (hd : ∀ k, T k → ¬ S k) (hl : ∀ k, T k → k < w.heap.size) : ∀ k, T k → ¬ S' k := fun k hk hs => by
  rcases h.sub k hs with h1 | h1
  · exact hd k hk h1
  · have := hl k hk; omega

/-- Bytes that the writer told, as they may be handed in. -/
theorem told_arg {B : Nat} {w : World} {a : Option Addr} {n cap : Nat} {bs : List Nat} (hb : Bytes bs) (hn : n ≤ 1275) (h : w.ownsRow B 5 1 (.slice a n cap) n (bvals bs)) : ∃ g, ArgIn w g a n cap bs ∧ (0 < n → B ≤ g ∧ g < w.heap.size) := by
  obtain ⟨a', g, cap', hv, hnil, hby, hg, _⟩ := bytes_of_owned hb h
  cases hv
  exact ⟨g, ⟨hby, hnil, by omega⟩, hg⟩

/-! ### The examples -/
def awA : Es := takeE initE (symFl (icdfL 0) 1) (symFh (icdfL 0) 1) 256
def awB : Es := bitsE 5 3 awA
def awC : Es := takeFlagE true 2 awB
def awL : List Nat := doneL awB 4

theorem awG : goodB (icdfL 0) = true := by decide +kernel
theorem awA_inv : InvE awA := by
  obtain ⟨p1, p2⟩ := sym_part awG (v := 1) (by decide)
  exact takeE_inv initE_inv p1 p2 (by decide)
theorem awB_inv : InvE awB := bitsE_inv awA_inv (by decide) (by decide)
theorem awC_inv : InvE awC := takeFlagE_inv awB_inv true (by decide) (by decide)
theorem aw_cnt : awA.cnt ≤ 1000 ∧ awB.cnt ≤ 1000 ∧ awC.cnt ≤ 1000 := by decide +kernel
theorem aw_ends : Ends awB 4 := ⟨awB_inv, by decide, by decide +kernel⟩
theorem aw_tell : tellS awB = 6 := by decide +kernel
theorem awL_bytes : Bytes awL := doneL_bytes aw_ends
theorem awL_sym : (symS awL (icdfL 0) (initS awL)).1 = 1 := by decide +kernel
theorem awL_bits : (bitsS awL 3 (symS awL (icdfL 0) (initS awL)).2).1 = 5 := by decide +kernel
theorem awL_tell : tellZ (bitsS awL 3 (symS awL (icdfL 0) (initS awL)).2).2 = 6 := by decide +kernel

def awX : St := (symS awL (icdfL 0) (initS awL)).2
def awY : St := (bitsS awL 3 awX).2
theorem awX_inv : Inv awX := (symS_inv awL_bytes (initS_inv awL_bytes) (icdfL 0)).1
theorem awY_inv : Inv awY := (bitsS_inv awL awX_inv 3).1
theorem aw_cnts : (initS awL).cnt ≤ 1000 ∧ awX.cnt ≤ 1000 ∧ awY.cnt ≤ 1000 := by decide +kernel

end Go.Proofs.Ytdbgcbbfnjoebaa
