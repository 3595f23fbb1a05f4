/- Writings as the laws of chapter 4 name them: which may be, what is written, what it does to the writer; the laws' own call that writes one. -/
import Derived.Test.YtdbgcbbfnjoebaaRwJ
import Derived.Test.YtdbgcbbfnjoebaaActsS
import Derived.Deep.RegionLaw
namespace Go.Proofs.Ytdbgcbbfnjoebaa
open Go.RowKit

/-- A writing that is asked for. -/
structure AV where
  op : Int
  v : Int
  n : Int
  m : Int
  t : List Int

def mayA (x : AV) : Prop :=
  if x.op = 0 then symOk x.t x.v
  else if x.op = 1 then 1 ≤ x.n ∧ x.n ≤ 15
  else if x.op = 2 then 0 ≤ x.n ∧ x.n ≤ 24 ∧ 0 ≤ x.v ∧ x.v.toNat < 2 ^ x.n.toNat
  else if x.op = 3 then 1 ≤ x.n ∧ x.n ≤ 4294967295 ∧ 0 ≤ x.v ∧ x.v < x.n
  else if x.op = 4 then lapOk x.n x.m
  else symOk (icdfL x.n) x.v

/-- What is written. -/
def wrA (x : AV) : Wr :=
  { op := x.op, v := if x.op = 1 then x.v % 2 else if x.op = 4 then lapW x.n.toNat x.m.toNat x.v else x.v, n := x.n, m := x.m, t := x.t, f := lapFl x.n.toNat x.m.toNat (lapW x.n.toNat x.m.toNat x.v) }

/-- What it does. -/
def writeA (x : AV) (s : Es) : Es :=
  if x.op = 0 then takeE s (symFl x.t x.v.toNat) (symFh x.t x.v.toNat) 256
  else if x.op = 1 then takeFlagE (decide (x.v % 2 = 1)) x.n.toNat s
  else if x.op = 2 then bitsE x.v.toNat x.n.toNat s
  else if x.op = 3 then uintEs x.v.toNat x.n.toNat s
  else if x.op = 4 then lapEs x.n.toNat x.m.toNat x.v s
  else takeE s (symFl (icdfL x.n) x.v.toNat) (symFh (icdfL x.n) x.v.toNat) 256

theorem okW_of {x : AV} (h : mayA x) : okW (wrA x) := by
  unfold mayA at h
  unfold okW wrA
  by_cases h0 : x.op = 0
  · rw [if_pos h0] at h ⊢
    simp only [if_neg (show ¬ x.op = 1 by omega), if_neg (show ¬ x.op = 4 by omega)]
    exact h
  rw [if_neg h0] at h ⊢
  by_cases h1 : x.op = 1
  · rw [if_pos h1] at h ⊢
    simp only [if_pos h1]
    exact ⟨h.1, h.2, by omega⟩
  rw [if_neg h1] at h ⊢
  by_cases h2 : x.op = 2
  · rw [if_pos h2] at h ⊢
    simp only [if_neg h1, if_neg (show ¬ x.op = 4 by omega)]
    exact h
  rw [if_neg h2] at h ⊢
  by_cases h3 : x.op = 3
  · rw [if_pos h3] at h ⊢
    simp only [if_neg h1, if_neg (show ¬ x.op = 4 by omega)]
    exact h
  rw [if_neg h3] at h ⊢
  by_cases h4 : x.op = 4
  · rw [if_pos h4] at h ⊢
    simp only [if_neg h1, if_pos h4]
    obtain ⟨f1, f2⟩ := lapW_ok (fs := x.n.toNat) (decay := x.m.toNat) (by have := h.1; omega) x.v
    exact ⟨h, f1, by rw [f2]⟩
  · rw [if_neg h4] at h ⊢
    simp only [if_neg h1, if_neg h4]
    exact h

theorem lap_part {fs decay : Nat} (h1 : 256 ≤ fs) (h2 : fs ≤ 28000) (h3 : decay ≤ 16000) (v : Int) : lapFl fs decay (lapW fs decay v) < lapFh fs decay (lapW fs decay v) ∧ lapFh fs decay (lapW fs decay v) ≤ 32768 := by
  obtain ⟨f1, f2⟩ := lapW_ok (fs := fs) (decay := decay) h1 v
  obtain ⟨a1, a2, _, _⟩ := lapAll_in (fs := fs) (decay := decay) (f := lapFl fs decay (lapW fs decay v)) h1 (by omega)
  rw [f2] at a1 a2
  refine ⟨a2, ?_⟩
  by_cases h0 : v = 0
  · obtain ⟨l, s, _, hl, hs, hle, _⟩ := lapTold_zero (decay := decay) h1 h2
    subst h0
    omega
  · unfold lapW
    have hp : 1 ≤ v.natAbs := by omega
    obtain ⟨w, hw⟩ : ∃ w, nearN fs decay (sgN v) v.natAbs = w := ⟨_, rfl⟩
    rw [hw]
    by_cases hw0 : w = 0
    · rw [hw0, sg_zero]
      unfold lapFh
      rw [if_pos rfl]
      omega
    · have hok := nearN_ok fs decay (sgN v) v.natAbs
      rw [hw] at hok
      obtain ⟨g1, g2⟩ := lapFl_sg (fs := fs) (decay := decay) (n := w) (sgN v) (by omega)
      -- the first part of one
      rw [g2]
      by_cases hall : ∀ j, j < w - 1 → 1 < lapSz fs decay j
      · obtain ⟨r1, r2⟩ := lap_room h1 h2 h3 hall
        have hp2 := lapSz_pos fs decay (w - 1)
        by_cases hs : 1 < lapSz fs decay (w - 1)
        · have := r2 hs
          rw [g1]
          split <;> omega
        · omega
      · have hex : ∃ j, j < w - 1 ∧ lapSz fs decay j = 1 := by
          refine Classical.byContradiction fun hn => hall fun j hj => ?_
          have := lapSz_pos fs decay j
          rcases Nat.lt_or_ge 1 (lapSz fs decay j) with h | h
          · exact h
          · exact absurd ⟨j, hj, by omega⟩ hn
        obtain ⟨j, hj, h1s⟩ := hex
        obtain ⟨q1, _⟩ := lapSeq_one fs decay j h1s (w - 1 - j)
        rw [show j + (w - 1 - j) = w - 1 by omega] at q1
        omega

theorem writeA_inv {x : AV} (h : mayA x) {s : Es} (hi : InvE s) : InvE (writeA x s) := by
  unfold mayA at h
  unfold writeA
  by_cases h0 : x.op = 0
  · rw [if_pos h0] at h ⊢
    obtain ⟨p1, p2⟩ := sym_part h.1 (v := x.v.toNat) (by have := h.2; omega)
    exact takeE_inv hi p1 p2 (by decide)
  rw [if_neg h0] at h ⊢
  by_cases h1 : x.op = 1
  · rw [if_pos h1] at h ⊢
    exact takeFlagE_inv hi _ (by omega) (by omega)
  rw [if_neg h1] at h ⊢
  by_cases h2 : x.op = 2
  · rw [if_pos h2] at h ⊢
    exact bitsE_inv hi (by omega) h.2.2.2
  rw [if_neg h2] at h ⊢
  by_cases h3 : x.op = 3
  · rw [if_pos h3] at h ⊢
    unfold uintEs
    split
    · exact takeE_inv hi (Nat.lt_succ_self _) (by omega) (by omega)
    · obtain ⟨s1, s2, s3, s4⟩ := shift_in (ft := x.n.toNat) (by omega) (by omega)
      exact bitsE_inv (takeE_inv hi (Nat.lt_succ_self _) (part_of (by omega) (by omega)) (by omega)) s2 (Nat.mod_lt _ (Nat.two_pow_pos _))
  rw [if_neg h3] at h ⊢
  by_cases h4 : x.op = 4
  · rw [if_pos h4] at h ⊢
    obtain ⟨o1, o2, o3, o4⟩ := h
    obtain ⟨q1, q2⟩ := lap_part (fs := x.n.toNat) (decay := x.m.toNat) (by omega) (by omega) (by omega) x.v
    exact takeE_inv hi q1 q2 (by decide)
  · rw [if_neg h4] at h ⊢
    obtain ⟨p1, p2⟩ := sym_part h.1 (v := x.v.toNat) (by have := h.2; omega)
    exact takeE_inv hi p1 p2 (by decide)

theorem writeA_cnt (x : AV) (h : mayA x) (s : Es) : (writeA x s).cnt ≤ s.cnt + 48 := by
  unfold mayA at h
  unfold writeA
  by_cases h0 : x.op = 0
  · rw [if_pos h0]
    have := takeE_cnt s (symFl x.t x.v.toNat) (symFh x.t x.v.toNat) 256
    omega
  rw [if_neg h0] at h ⊢
  by_cases h1 : x.op = 1
  · rw [if_pos h1]
    have := takeFlagE_cnt (decide (x.v % 2 = 1)) x.n.toNat s
    omega
  rw [if_neg h1] at h ⊢
  by_cases h2 : x.op = 2
  · rw [if_pos h2] at h ⊢
    have := bitsE_cnt x.v.toNat x.n.toNat s
    omega
  rw [if_neg h2] at h ⊢
  by_cases h3 : x.op = 3
  · rw [if_pos h3] at h ⊢
    unfold uintEs
    split
    · have := takeE_cnt s x.v.toNat (x.v.toNat + 1) x.n.toNat
      omega
    · obtain ⟨s1, s2, s3, s4⟩ := shift_in (ft := x.n.toNat) (by omega) (by omega)
      have := takeE_cnt s (x.v.toNat / 2 ^ shiftN x.n.toNat) (x.v.toNat / 2 ^ shiftN x.n.toNat + 1) (partN x.n.toNat)
      rw [bitsE_cnt]
      omega
  rw [if_neg h3] at h ⊢
  by_cases h4 : x.op = 4
  · rw [if_pos h4]
    have := takeE_cnt s (lapFl x.n.toNat x.m.toNat (lapW x.n.toNat x.m.toNat x.v)) (lapFh x.n.toNat x.m.toNat (lapW x.n.toNat x.m.toNat x.v)) 32768
    show (takeE _ _ _ _).cnt ≤ _
    omega
  · rw [if_neg h4]
    have := takeE_cnt s (symFl (icdfL x.n) x.v.toNat) (symFh (icdfL x.n) x.v.toNat) 256
    omega

theorem putE_one {e : Sp} (h : SpOk e) : putE e 0 1 1 = e := by
  have e1 : narrowE e 0 1 1 = e := by
    unfold narrowE
    simp
  unfold putE
  rw [e1]
  unfold normE
  rw [if_neg (by have := h.low; omega)]

theorem writeA_wrote {x : AV} (h : mayA x) {s : Es} (hi : InvE s) {e : Sp} (he : SpOk e) {R V : Nat} (hw : Wrote e R V s) :
    Wrote (spanW (wrA x) e) (R + rawN (wrA x)) (V + rawV (wrA x) * 2 ^ R) (writeA x s) := by
  unfold mayA at h
  unfold writeA spanW rawN rawV
  have hop : (wrA x).op = x.op := rfl
  have hn : (wrA x).n = x.n := rfl
  have ht : (wrA x).t = x.t := rfl
  simp only [hop, hn, ht]
  by_cases h0 : x.op = 0
  · simp only [if_pos h0, if_neg (show ¬ x.op = 2 by omega), if_neg (show ¬ x.op = 3 by omega)]
    rw [if_pos h0] at h
    have hv : (wrA x).v = x.v := by show (if x.op = 1 then _ else if x.op = 4 then _ else x.v) = _; rw [if_neg (by omega), if_neg (by omega)]
    obtain ⟨p1, p2⟩ := sym_part h.1 (v := x.v.toNat) (by have := h.2; omega)
    rw [hv, Nat.zero_mul]
    exact takeE_wrote hi hw p1 p2 (by decide)
  rw [if_neg h0] at h
  simp only [if_neg h0]
  by_cases h1 : x.op = 1
  · simp only [if_pos h1, if_neg (show ¬ x.op = 2 by omega), if_neg (show ¬ x.op = 3 by omega)]
    rw [if_pos h1] at h
    have hv : (wrA x).v = x.v % 2 := if_pos h1
    rw [hv, Nat.zero_mul]
    exact takeFlagE_wrote hi hw _ (by omega) (by omega)
  rw [if_neg h1] at h
  simp only [if_neg h1]
  have hv4 : x.op ≠ 4 → (wrA x).v = x.v := fun h4 => by show (if x.op = 1 then _ else if x.op = 4 then _ else x.v) = _; rw [if_neg h1, if_neg h4]
  by_cases h2 : x.op = 2
  · simp only [if_pos h2]
    rw [if_pos h2] at h
    rw [hv4 (by omega)]
    exact bitsE_wrote hw x.v.toNat x.n.toNat
  rw [if_neg h2] at h
  simp only [if_neg h2]
  by_cases h3 : x.op = 3
  · simp only [if_pos h3]
    rw [if_pos h3] at h
    obtain ⟨o1, o2, o3, o4⟩ := h
    rw [hv4 (by omega)]
    unfold uintEs uintE
    by_cases c1 : x.n.toNat ≤ 1
    · have e1 : x.n.toNat = 1 := by omega
      have e2 : x.v.toNat = 0 := by omega
      rw [if_pos c1, if_pos (by omega), if_pos (by omega), if_pos (by omega), e1, e2, Nat.zero_mul]
      have := takeE_wrote hi hw (fl := 0) (fh := 1) (ft := 1) (by decide) (by decide) (by decide)
      rw [putE_one he] at this
      exact this
    · rw [if_neg c1]
      by_cases c2 : x.n.toNat ≤ 256
      · rw [if_pos c2, if_pos c2, if_pos c2, if_pos c2, Nat.zero_mul]
        exact takeE_wrote hi hw (Nat.lt_succ_self _) (by omega) (by omega)
      · rw [if_neg c2, if_neg c2, if_neg c2, if_neg c2]
        obtain ⟨s1, s2, s3, s4⟩ := shift_in (ft := x.n.toNat) (by omega) (by omega)
        exact bitsE_wrote (takeE_wrote hi hw (Nat.lt_succ_self _) (part_of (by omega) (by omega)) (by omega)) _ _
  rw [if_neg h3] at h
  simp only [if_neg h3]
  by_cases h4 : x.op = 4
  · simp only [if_pos h4]
    rw [if_pos h4] at h
    obtain ⟨o1, o2, o3, o4⟩ := h
    obtain ⟨q1, q2⟩ := lap_part (fs := x.n.toNat) (decay := x.m.toNat) (by omega) (by omega) (by omega) x.v
    obtain ⟨_, f2⟩ := lapW_ok (fs := x.n.toNat) (decay := x.m.toNat) (by omega) x.v
    rw [Nat.zero_mul]
    have e1 : lapE x.n.toNat x.m.toNat (wrA x).f e = putE e (lapFl x.n.toNat x.m.toNat (lapW x.n.toNat x.m.toNat x.v)) (lapFh x.n.toNat x.m.toNat (lapW x.n.toNat x.m.toNat x.v)) 32768 := by
      show lapE x.n.toNat x.m.toNat (lapFl x.n.toNat x.m.toNat (lapW x.n.toNat x.m.toNat x.v)) e = _
      unfold lapE
      rw [f2, Nat.min_eq_left q2]
    show Wrote (lapE x.n.toNat x.m.toNat (wrA x).f e) _ _ _
    rw [e1]
    exact takeE_wrote hi hw q1 q2 (by decide)
  · simp only [if_neg h4]
    rw [if_neg h4] at h
    rw [hv4 h4, Nat.zero_mul]
    obtain ⟨p1, p2⟩ := sym_part h.1 (v := x.v.toNat) (by have := h.2; omega)
    exact takeE_wrote hi hw p1 p2 (by decide)

end Go.Proofs.Ytdbgcbbfnjoebaa
