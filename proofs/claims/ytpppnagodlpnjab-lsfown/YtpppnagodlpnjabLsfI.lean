/- Frequencies told by an index, and frequencies between two, as the document's own answer and the program's call have them. -/
import Derived.Test.YtpppnagodlpnjabLsfH
namespace Go.Proofs.Ytpppnagodlpnjab
open Go.RowKit

/-! ### Between two -/
def betweenL (xs ys : List Int) (v : Int) (n : Nat) : List Int := (List.range n).map fun k => betweenZ (atN xs k) (atN ys k) v
theorem betweenL_len (xs ys : List Int) (v : Int) (n : Nat) : (betweenL xs ys v n).length = n := by unfold betweenL; rw [List.length_map, List.length_range]
theorem betweenL_at {xs ys : List Int} {v : Int} {n k : Nat} (hk : k < n) : (betweenL xs ys v n)[k]?.getD 0 = clZ 0 32768 (xs[k]?.getD 0) + (clZ 0 32768 (ys[k]?.getD 0) - clZ 0 32768 (xs[k]?.getD 0)) * v / 4 := map_range_at _ _ _ hk
theorem way_in {x y v : Int} (hx : 0 ≤ x ∧ x ≤ 32768) (hy : 0 ≤ y ∧ y ≤ 32768) (hv : 0 ≤ v ∧ v ≤ 4) : -131072 ≤ (y - x) * v ∧ (y - x) * v ≤ 131072 := by
  have : v = 0 ∨ v = 1 ∨ v = 2 ∨ v = 3 ∨ v = 4 := by omega
  rcases this with rfl | rfl | rfl | rfl | rfl <;> omega

theorem between_bad (a1 a2 : Option Addr) (n1 n2 c1 c2 : Nat) (v : Int) (w : World) (_h1 : n1 ≤ maxLen) (_h2 : n2 ≤ maxLen) (h : ¬ (n1 = n2 ∧ n1 ≤ 64 ∧ 0 ≤ v ∧ v ≤ 4)) :
    Calls Try.prog 9 #[.slice a1 n1 c1, .slice a2 n2 c2, .int .i64 v] w fun e w' => e = .returned (.tuple #[.slice none 0 0, .int .i64 1]) ∧ w' = w := by
  unfold maxLen at _h1 _h2
  have h4 : ((n1 : Int) != (n2 : Int)) = true ∨ (n1 = n2 ∧ 64 < n1) ∨ (n1 = n2 ∧ n1 ≤ 64 ∧ v < 0) ∨ (n1 = n2 ∧ n1 ≤ 64 ∧ 0 ≤ v ∧ 4 < v) := by
    rw [bne_iff_ne]
    omega
  clear h
  rcases h4 with h | ⟨rfl, h⟩ | ⟨rfl, h, h2⟩ | ⟨rfl, h, h2, h3⟩
  all_goals
    go_enter Try.func9, Try.ntmps9
    go_wp2
    go_ret2
    exact ⟨rfl, rfl⟩

set_option maxRecDepth 100000 in
set_option maxHeartbeats 2000000 in
theorem between_good (a1 a2 : Option Addr) (n c1 c2 : Nat) (xs ys : List Int) (v : Int) (w : World) (h1 : Zs w a1 n xs) (h2 : Zs w a2 n ys) (hn : n ≤ 64) (h0 : 0 ≤ v) (h4 : v ≤ 4) :
    Calls Try.prog 9 #[.slice a1 n c1, .slice a2 n c2, .int .i64 v] w fun e w' => ∃ a', e = .returned (.tuple #[.slice a' n n, .int .i64 0]) ∧ NewRow 2 w.heap.size w' a' (betweenL xs ys v n) ∧ Below w.heap.size w w' := by
  have l1 := h1.len
  have l2 := h2.len
  have HX : Hid (Zs w a1 n xs) := h1
  have HY : Hid (∀ W, Below w.heap.size w W → Zs W a2 n ys) := fun W hb => h2.keep hb
  have HL0 : Hid ((clL xs).length = n) := by show _ = _; rw [clL_len, l1]
  have HL1 : Hid ((betweenL xs ys v n).length = n) := betweenL_len _ _ _ _
  have HA : Hid (∀ k, k < n → (betweenL xs ys v n)[k]?.getD 0 = (clL xs)[k]?.getD 0 + (clZ 0 32768 (ys[k]?.getD 0) - (clL xs)[k]?.getD 0) * v / 4) := fun k hk => by rw [betweenL_at hk, clL_at (by omega)]
  have HI : Hid (∀ k, k < n → 0 ≤ (clL xs)[k]?.getD 0 ∧ (clL xs)[k]?.getD 0 ≤ 32768) := fun k hk => by rw [clL_at (by omega)]; exact clZ_in _
  clear h1 h2 l1 l2
  generalize betweenL xs ys v n = L at *
  go_enter Try.func9, Try.ntmps9
  go_wp2_with (go_at_call 14; refine (clampAll_any _ _ _ xs _ HX.out (by omega)).mono ?_; rintro e w3 ⟨a3, rfl, hn3, hb3⟩)
  have HN3 : Hid (NewRow 2 w.heap.size w3 a3 (clL xs) ∧ Below w.heap.size w w3) := ⟨hn3, hb3⟩
  clear hn3 hb3 HX
  generalize clL xs = l0 at *
  go_loopw [9, 10, 33] (fun _ _ k W => ∃ m : Nat, m ≤ n ∧ k = .int .i64 m ∧ Hid (NewRow 2 w.heap.size W a3 (mixL L l0 m) ∧ Below w.heap.size w W)) (fun _ _ k _ => n - (intOf k).toNat)
  case atStart => exact ⟨0, Nat.zero_le _, rfl, HN3⟩
  case round =>
    clear HN3
    obtain ⟨m, hm, rfl, HW⟩ := hrel
    have hlen := mixL_len HL1.out HL0.out hm
    by_cases hlt : m < n
    · obtain ⟨b, rfl, hB1, hB2⟩ := HW.out.1.some_of (by omega)
      obtain ⟨b2, o2, rfl, hb2, hc2⟩ := (HY.out wr HW.out.2).at_ (by omega)
      have hcv := hc2 m hlt
      have hcm := HW.out.1.cellAt (i := m) (by omega)
      have hfm := HW.out.1.frozenAt (by omega) m
      rw [mixL_at HL1.out HL0.out hlt] at hcm
      have hst := mixL_step HL1.out HL0.out hlt
      have h1 := HA.out m hlt
      have hz := HI.out m hlt
      have hy := clZ_in (ys[m]?.getD 0)
      generalize ys[m]?.getD 0 = y0 at *
      generalize l0[m]?.getD 0 = z at *
      generalize L[m]?.getD 0 = y at *
      subst h1
      generalize hy0 : clZ 0 32768 y0 = yc at *
      have HC : Hid (clZ 0 32768 y0 = yc) := hy0
      clear hy0
      have hp := way_in hz hy ⟨h0, h4⟩
      have HR2 : Hid (NewRow 2 w.heap.size (wr.setCell ⟨b, m, none⟩ (.int .i64 (z + (yc - z) * v / 4))) (some ⟨b, 0, none⟩) (mixL L l0 (m + 1)) ∧ Below w.heap.size w (wr.setCell ⟨b, m, none⟩ (.int .i64 (z + (yc - z) * v / 4)))) :=
        ⟨by rw [hst]; exact HW.out.1.set m _, HW.out.2.setCell (p := ⟨b, m, none⟩) hB1 _⟩
      have HW0 : Hid (IntKind.i64.wrap (yc - z) = yc - z) := by show _ = _; rw [IntKind.wrap_i64]; omega
      have HW1 : Hid (IntKind.i64.wrap ((yc - z) * v) = (yc - z) * v) := by show _ = _; rw [IntKind.wrap_i64]; omega
      have HW2 : Hid (IntKind.i64.wrap (z + (yc - z) * v / 4) = z + (yc - z) * v / 4) := by show _ = _; rw [IntKind.wrap_i64]; omega
      clear hst hc2 HA HI HL0 HL1 HY HW hlen
      go_wp2
      go_region_with (first
        | (go_at_call 19; refine (lclamp_any _ _).mono ?_; rw [HC.out]; rintro e w5 ⟨rfl, rfl⟩)
        | (go_at_call 18; rw [HW0.out, HW1.out]; refine (ldown_any _ _ _ (by omega) (by omega) (by decide)).mono ?_; rintro e w5 ⟨rfl, rfl⟩))
      all_goals
        rw [HW2.out]
        go_wp2
        go_roundw
        case rel => exact ⟨m + 1, by omega, by go_num, HR2.out.1.drew, HR2.out.2.drew⟩
        case measure => simp [intOf]; omega
    · have hm' : m = n := by omega
      subst hm'
      rw [mixL_all HL1.out HL0.out] at HW
      clear HA HI HY
      go_wp2
      go_ret2
      exact ⟨_, rfl, HW.out.1, HW.out.2⟩

end Go.Proofs.Ytpppnagodlpnjab
