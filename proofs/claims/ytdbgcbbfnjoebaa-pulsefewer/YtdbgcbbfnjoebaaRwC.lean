/- The program's writer: flags, symbols. -/
import Derived.Test.YtdbgcbbfnjoebaaRwB
namespace Go.Proofs.Ytdbgcbbfnjoebaa
open Go.RowKit

theorem flagEs_true {s : Es} {n : Nat} : flagEs true n s = { s with low := s.low + (s.rng - s.rng / 2 ^ n), rng := s.rng / 2 ^ n } := rfl
theorem flagEs_false {s : Es} {n : Nat} : flagEs false n s = { s with rng := s.rng - s.rng / 2 ^ n } := rfl

theorem symE_bad (S : Nat → Prop) (p : Nat) (s : Es) (v : Int) (xo : Option Addr) (n cap : Nat) (zs : List Int) (w : World) (h : Wd S p s w) (ht : RowAt w xo n zs) (hn : n ≤ 9223372036854775807) (hok : ¬ symOk zs v) :
    Calls Try.prog 53 #[.pointer (some ⟨p, 0, none⟩), .int .i64 v, .slice xo n cap] w fun e w' => e = .returned (.int .i64 1) ∧ ∃ S', Wd S' p s w' ∧ Went S w S' w' := by
  have HH : Hid (Wd S p s w) := h
  have HT : Hid (RowAt w xo n zs) := ht
  have hlen := ht.1
  clear h
  cases hg : goodB zs
  · have HG : Hid (goodB zs = false) := hg
    clear hg ht hok
    go_enter Try.func53, Try.ntmps53
    go_wp2_with (go_at_call 67; refine (good_row zs n xo cap _ HT.out hn).mono ?_; rw [HG.out]; rintro e w' ⟨rfl, rfl⟩)
    go_ret
    exact ⟨rfl, S, HH.out, Went.refl _ _⟩
  · have HG : Hid (goodB zs = true) := hg
    by_cases h1 : v < 0
    · clear hg ht hok
      go_enter Try.func53, Try.ntmps53
      go_wp2_with (go_at_call 67; refine (good_row zs n xo cap _ HT.out hn).mono ?_; rw [HG.out]; rintro e w' ⟨rfl, rfl⟩)
      go_ret
      exact ⟨rfl, S, HH.out, Went.refl _ _⟩
    · have h2 : (n : Int) ≤ v := by
        rcases Int.lt_or_le v n with h2 | h2
        · exact absurd ⟨hg, by omega, by rw [hlen]; exact h2⟩ hok
        · exact h2
      clear hg ht hok
      go_enter Try.func53, Try.ntmps53
      go_wp2_with (go_at_call 67; refine (good_row zs n xo cap _ HT.out hn).mono ?_; rw [HG.out]; rintro e w' ⟨rfl, rfl⟩)
      go_ret
      exact ⟨rfl, S, HH.out, Went.refl _ _⟩

set_option maxRecDepth 100000 in
set_option maxHeartbeats 1600000 in
theorem symE_any (S : Nat → Prop) (p : Nat) (s : Es) (v : Nat) (xo : Option Addr) (n cap : Nat) (zs : List Int) (w : World) (h : Wd S p s w) (hi : InvE s) (ht : RowAt w xo n zs) (hn : n ≤ 9223372036854775807) (hg : goodB zs = true) (hv : v < zs.length) (hc : s.cnt ≤ 1000000000000000) :
    Calls Try.prog 53 #[.pointer (some ⟨p, 0, none⟩), .int .i64 v, .slice xo n cap] w fun e w' => e = .returned (.int .i64 0) ∧ ∃ S', Wd S' p (takeE s (symFl zs v) (symFh zs v) 256) w' ∧ Went S w S' w' := by
  have HH : Hid (Wd S p s w) := h
  have HT : Hid (RowAt w xo n zs) := ht
  have HI : Hid (InvE s) := hi
  have HG : Hid (goodB zs = true) := hg
  have hlen := ht.1
  rw [hlen] at hv
  obtain ⟨p1, p2⟩ := sym_part hg (v := v) (by omega)
  obtain ⟨g1, g2, g3, g4⟩ := good_cells hg
  obtain ⟨b, off, rfl, hlt, hcc⟩ := ht.2 (by omega)
  have x1 := g4 v (by omega)
  have x2 := hcc v hv
  have e2 : ((symFh zs v : Nat) : Int) = 256 - zs[v]?.getD 0 := by unfold symFh; omega
  have E2 : Hid (256 - zs[v]?.getD 0 = ((symFh zs v : Nat) : Int)) := e2.symm
  have P1 : Hid (symFl zs v < symFh zs v ∧ symFh zs v ≤ 256) := ⟨p1, p2⟩
  rw [hlen] at g1 g2
  by_cases h0 : v = 0
  · have E1 : Hid ((0 : Int) = ((symFl zs v : Nat) : Int)) := by
      show _ = _
      unfold symFl; rw [if_pos h0]; rfl
    subst h0
    rw [Nat.add_zero] at x2
    have hn0 : n ≠ 0 := by omega
    generalize zs[0]?.getD 0 = x at *
    generalize symFh zs 0 = U at *
    generalize symFl zs 0 = L at *
    clear h hi ht hg g3 g4 hcc e2 p1 p2
    go_enter Try.func53, Try.ntmps53
    go_wp2_with (first
      | (go_at_call 67; refine (good_row zs n _ cap _ HT.out hn).mono ?_; rw [HG.out]; rintro e w' ⟨rfl, rfl⟩)
      | (go_at_call 71; refine (takeE_any S p s _ _ _ L U 256 E1.out E2.out rfl _ HH.out HI.out P1.out.1 P1.out.2 (by decide) hc).mono ?_; rintro e w' ⟨rfl, S2, hw1, hw2⟩))
    go_ret
    exact ⟨rfl, S2, hw1, hw2⟩
  · have x3 := g4 (v - 1) (by omega)
    have x4 := hcc (v - 1) (by omega)
    have E1 : Hid (256 - zs[v - 1]?.getD 0 = ((symFl zs v : Nat) : Int)) := by
      show _ = _
      unfold symFl; rw [if_neg h0]; omega
    obtain ⟨u, rfl⟩ : ∃ u, v = u + 1 := ⟨v - 1, by omega⟩
    rw [Nat.add_sub_cancel] at *
    generalize zs[u + 1]?.getD 0 = x at *
    generalize zs[u]?.getD 0 = y at *
    generalize symFh zs (u + 1) = U at *
    generalize symFl zs (u + 1) = L at *
    have hu1 : ((u + 1 : Nat) : Int) - 1 = u := by omega
    clear h hi ht hg g3 g4 hcc e2 p1 p2
    go_enter Try.func53, Try.ntmps53
    go_wp2_with (first
      | (go_at_call 67; refine (good_row zs n _ cap _ HT.out hn).mono ?_; rw [HG.out]; rintro e w' ⟨rfl, rfl⟩)
      | (go_at_call 71; refine (takeE_any S p s _ _ _ L U 256 E1.out E2.out rfl _ HH.out HI.out P1.out.1 P1.out.2 (by decide) hc).mono ?_; rintro e w' ⟨rfl, S2, hw1, hw2⟩))
    go_ret
    exact ⟨rfl, S2, hw1, hw2⟩

end Go.Proofs.Ytdbgcbbfnjoebaa
