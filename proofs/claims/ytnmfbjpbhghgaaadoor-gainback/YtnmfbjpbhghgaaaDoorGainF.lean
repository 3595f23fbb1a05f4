/- Package gain, what is written: by one entry, by a table. -/
import Derived.Test.YtnmfbjpbhghgaaaDoorGainD
import Derived.Test.YtnmfbjpbhghgaaaDoorLastOp
namespace Go.Proofs.YtnmfbjpbhghgaaaDoor
open Go.RowKit

/-- What may be written: a symbol of a good table, a number below another. -/
def okX (x : Wr) : Prop := (x.op = 0 ∧ symOk x.t x.v) ∨ (x.op = 3 ∧ 1 ≤ x.n ∧ x.n ≤ 4294967295 ∧ 0 ≤ x.v ∧ x.v < x.n)

/-- What it does. -/
def putX (x : Wr) (s : Es) : Es := if x.op = 0 then takeE s (symFl x.t x.v.toNat) (symFh x.t x.v.toNat) 256 else uintEs x.v.toNat x.n.toNat s

def putsX : List Wr → Es → Es
  | [], s => s
  | x :: l, s => putsX l (putX x s)

theorem okX.okW {x : Wr} (h : okX x) : okW x := by
  unfold Go.Proofs.YtnmfbjpbhghgaaaDoor.okW
  rcases h with ⟨h0, h⟩ | ⟨h0, h⟩
  · rw [if_pos h0]; exact h
  · rw [if_neg (by omega), if_neg (by omega), if_neg (by omega), if_pos h0]; exact h

theorem putX_inv {x : Wr} (h : okX x) {s : Es} (hi : InvE s) : InvE (putX x s) := by
  unfold putX
  rcases h with ⟨h0, h⟩ | ⟨h0, h⟩
  · rw [if_pos h0]
    obtain ⟨p1, p2⟩ := sym_part h.1 (v := x.v.toNat) (by have := h.2; omega)
    exact takeE_inv hi p1 p2 (by decide)
  · rw [if_neg (by omega)]
    unfold uintEs
    split
    · exact takeE_inv hi (Nat.lt_succ_self _) (by omega) (by omega)
    · obtain ⟨s1, s2, s3, s4⟩ := shift_in (ft := x.n.toNat) (by omega) (by omega)
      exact bitsE_inv (takeE_inv hi (Nat.lt_succ_self _) (part_of (by omega) (by omega)) (by omega)) s2 (Nat.mod_lt _ (Nat.two_pow_pos _))

theorem putX_cnt {x : Wr} (h : okX x) (s : Es) : (putX x s).cnt ≤ s.cnt + 48 := by
  unfold putX
  rcases h with ⟨h0, h⟩ | ⟨h0, h⟩
  · rw [if_pos h0]
    have := takeE_cnt s (symFl x.t x.v.toNat) (symFh x.t x.v.toNat) 256
    omega
  · rw [if_neg (by omega)]
    unfold uintEs
    split
    · have := takeE_cnt s x.v.toNat (x.v.toNat + 1) x.n.toNat
      omega
    · obtain ⟨s1, s2, s3, s4⟩ := shift_in (ft := x.n.toNat) (by omega) (by omega)
      have := takeE_cnt s (x.v.toNat / 2 ^ shiftN x.n.toNat) (x.v.toNat / 2 ^ shiftN x.n.toNat + 1) (partN x.n.toNat)
      rw [bitsE_cnt]
      omega

theorem putE_whole {e : Sp} (h : SpOk e) : putE e 0 1 1 = e := by
  have e1 : narrowE e 0 1 1 = e := by
    unfold narrowE
    simp
  unfold putE
  rw [e1]
  unfold normE
  rw [if_neg (by have := h.low; omega)]

theorem putX_wrote {x : Wr} (h : okX x) {s : Es} (hi : InvE s) {e : Sp} (he : SpOk e) {R V : Nat} (hw : Wrote e R V s) :
    Wrote (spanW x e) (R + rawN x) (V + rawV x * 2 ^ R) (putX x s) := by
  unfold putX spanW rawN rawV
  rcases h with ⟨h0, h⟩ | ⟨h0, h⟩
  · simp only [if_pos h0, if_neg (show ¬ x.op = 2 by omega), if_neg (show ¬ x.op = 3 by omega)]
    obtain ⟨p1, p2⟩ := sym_part h.1 (v := x.v.toNat) (by have := h.2; omega)
    rw [Nat.zero_mul]
    exact takeE_wrote hi hw p1 p2 (by decide)
  · simp only [if_pos h0, if_neg (show ¬ x.op = 0 by omega), if_neg (show ¬ x.op = 1 by omega), if_neg (show ¬ x.op = 2 by omega)]
    obtain ⟨o1, o2, o3, o4⟩ := h
    unfold uintEs uintE
    by_cases c1 : x.n.toNat ≤ 1
    · have e1 : x.n.toNat = 1 := by omega
      have e2 : x.v.toNat = 0 := by omega
      rw [if_pos c1, if_pos (by omega), if_pos (by omega), if_pos (by omega), e1, e2, Nat.zero_mul]
      have := takeE_wrote hi hw (fl := 0) (fh := 1) (ft := 1) (by decide) (by decide) (by decide)
      rw [putE_whole he] at this
      exact this
    · rw [if_neg c1]
      by_cases c2 : x.n.toNat ≤ 256
      · rw [if_pos c2, if_pos c2, if_pos c2, if_pos c2, Nat.zero_mul]
        exact takeE_wrote hi hw (Nat.lt_succ_self _) (by omega) (by omega)
      · rw [if_neg c2, if_neg c2, if_neg c2, if_neg c2]
        obtain ⟨s1, s2, s3, s4⟩ := shift_in (ft := x.n.toNat) (by omega) (by omega)
        exact bitsE_wrote (takeE_wrote hi hw (Nat.lt_succ_self _) (part_of (by omega) (by omega)) (by omega)) _ _

theorem putsX_step : ∀ (l : List Wr) (s : Es) (k : Nat) (x : Wr), l[k]? = some x → putsX (l.take (k + 1)) s = putX x (putsX (l.take k) s)
  | [], _, _, _, h => by simp at h
  | y :: l, s, 0, x, h => by
    obtain rfl : y = x := by simpa using h
    rfl
  | y :: l, s, k + 1, x, h => by
    have h' : l[k]? = some x := by simpa using h
    exact putsX_step l (putX y s) k x h'

theorem putsX_inv : ∀ (l : List Wr) (s : Es), (∀ x ∈ l, okX x) → InvE s → InvE (putsX l s) ∧ (putsX l s).cnt ≤ s.cnt + 48 * l.length
  | [], s, _, hi => ⟨hi, Nat.le_refl _⟩
  | x :: l, s, ho, hi => by
    have h2 := putX_cnt (ho x (by simp)) s
    obtain ⟨h3, h4⟩ := putsX_inv l (putX x s) (fun y hy => ho y (by simp [hy])) (putX_inv (ho x (by simp)) hi)
    refine ⟨h3, ?_⟩
    show (putsX l (putX x s)).cnt ≤ _
    rw [List.length_cons]
    omega

/-! ### The entries -/
theorem writeSym_any (S : Nat → Prop) (p : Nat) (s : Es) (v : Int) (b2 b3 : Nat) (a : Option Addr) (n cap : Nat) (t : List Int) (w : World) (h : Wd S p s w) (hi : InvE s) (hc : s.cnt ≤ 100000000000000) (ht : RowAt w a n t) (hn : n ≤ 17) (hok : symOk t v)
    (h2 : w.cell? ⟨b2, 0, none⟩ = some (.func (.func 61) #[] #[])) (h3 : w.cell? ⟨b3, 0, none⟩ = some (.slice a n cap)) :
    Calls Tryd.prog 72 #[.pointer (some ⟨p, 0, none⟩), .int .i64 v, .pointer (some ⟨b2, 0, none⟩), .pointer (some ⟨b3, 0, none⟩)] w fun e w' => e = .returned (.tuple #[]) ∧ ∃ S', Wd S' p (takeE s (symFl t v.toNat) (symFh t v.toNat) 256) w' ∧ Went S w S' w' := by
  have HH : Hid (Wd S p s w) := h
  have HT : Hid (RowAt w a n t ∧ symOk t v) := ⟨ht, hok⟩
  clear h ht hok
  go_enter Tryd.func72, Tryd.ntmps72
  go_wp2_with (go_at_call 61; go_loud (refine (symE_int S p s v a n cap t _ HH.out hi HT.out.1 (by omega) HT.out.2 (by omega)).mono ?_; rintro e w' ⟨rfl, S2, hw1, hw2⟩))
  go_end0
  exact ⟨rfl, S2, hw1, hw2⟩

theorem writeUint_any (S : Nat → Prop) (p : Nat) (s : Es) (v : Int) (b2 b3 : Nat) (n : Int) (w : World) (h : Wd S p s w) (hi : InvE s) (hc : s.cnt ≤ 100000000000000) (hok : 1 ≤ n ∧ n ≤ 4294967295 ∧ 0 ≤ v ∧ v < n)
    (h2 : w.cell? ⟨b2, 0, none⟩ = some (.func (.func 65) #[] #[])) (h3 : w.cell? ⟨b3, 0, none⟩ = some (.int .i64 n)) :
    Calls Tryd.prog 78 #[.pointer (some ⟨p, 0, none⟩), .int .i64 v, .pointer (some ⟨b2, 0, none⟩), .pointer (some ⟨b3, 0, none⟩)] w fun e w' => e = .returned (.tuple #[]) ∧ ∃ S', Wd S' p (uintEs v.toNat n.toNat s) w' ∧ Went S w S' w' := by
  have HH : Hid (Wd S p s w) := h
  have HO : Hid (1 ≤ n ∧ n ≤ 4294967295 ∧ 0 ≤ v ∧ v < n) := hok
  clear h hok
  go_enter Tryd.func78, Tryd.ntmps78
  go_wp2_with (go_at_call 65; go_loud (refine (uintE_int S p s v n _ HH.out hi HO.out hc).mono ?_; rintro e w' ⟨rfl, S2, hw1, hw2⟩))
  go_end0
  exact ⟨rfl, S2, hw1, hw2⟩

end Go.Proofs.YtnmfbjpbhghgaaaDoor
