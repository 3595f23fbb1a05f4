/- Frequencies kept apart, as the document's own answer has it; may an index be, by the document's own word. -/
import Derived.Test.YtjaccokmficfdaaLsfD
namespace Go.Proofs.Ytjaccokmficfdaa
open Go.RowKit

theorem midUp_kept {c : List Int} {i : Nat} (h : i < c.length) (he : atLeast (lastUp c i) (c[i]?.getD 0) = c[i]?.getD 0) : midUp c (i + 1) = midUp c i := by
  rw [midUp_step h, he, ← midUp_at (Nat.le_refl i) h]
  exact set_own (by rw [midUp_len]; exact h)
theorem midDn_kept {u : List Int} {j : Nat} (h : j < u.length) (he : atMost (lastDn u (j + 1)) (u[j]?.getD 0) = u[j]?.getD 0) : midDn u j = midDn u (j + 1) := by
  rw [midDn_step h, he, ← midDn_at (Nat.lt_succ_self j) (Nat.succ_le_of_lt h)]
  exact set_own (by rw [midDn_len]; exact h)
theorem upCases (was x : Int) : (x < was + 250 ∧ atLeast was x = was + 250) ∨ (was + 250 ≤ x ∧ atLeast was x = x) := by
  unfold atLeast
  by_cases h : x < was + 250
  · exact .inl ⟨h, if_pos h⟩
  · exact .inr ⟨by omega, if_neg h⟩
theorem dnCases (was x : Int) : (was - 250 < x ∧ atMost was x = was - 250) ∨ (x ≤ was - 250 ∧ atMost was x = x) := by
  unfold atMost
  by_cases h : was - 250 < x
  · exact .inl ⟨h, if_pos h⟩
  · exact .inr ⟨by omega, if_neg h⟩

theorem rsteady_far (a : Option Addr) (n cap : Nat) (w : World) (h : 64 < n) (_hn : n ≤ 9223372036854775807) :
    Calls Try.prog 55 #[.slice a n cap] w fun e w' => e = .returned (.slice none 0 0) ∧ w' = w := by
  go_enter Try.func55, Try.ntmps55
  go_wp2
  go_ret
  exact ⟨rfl, rfl⟩

set_option maxRecDepth 100000 in
set_option maxHeartbeats 2000000 in
theorem rsteady_any (a : Option Addr) (n cap : Nat) (zs : List Int) (w : World) (hz : Zs w a n zs) (hn : n ≤ 64) :
    Calls Try.prog 55 #[.slice a n cap] w fun e w' => ∃ a' c', e = .returned (.slice a' n c') ∧ NewRow 2 w.heap.size w' a' (steadyZ zs) ∧ Below w.heap.size w w' := by
  have HC : Hid (∀ x ∈ clL zs, 0 ≤ x ∧ x ≤ 32768) := fun x hx => clL_in x hx
  have HL : Hid ((clL zs).length = n) := by show _ = _; rw [clL_len, hz.len]
  have HS : Hid (steadyZ zs = midDn (upZ 0 (clL zs)) 0) := steadyZ_is zs
  have HZ : Hid (Zs w a n zs) := hz
  clear hz
  go_enter Try.func55, Try.ntmps55
  go_wp2_with (go_at_call 30; refine (rclamped_any _ _ _ zs _ HZ.out (by omega)).mono ?_; rintro e w1 ⟨a1, c1, rfl, hr1, hb1⟩)
  have HR1 : Hid (NewRow 2 w.heap.size w1 a1 (midUp (clL zs) 0) ∧ Below w.heap.size w w1) := ⟨by rw [midUp_zero]; exact hr1, hb1⟩
  clear hr1 hb1 HZ
  generalize clL zs = c at *
  go_loopw [4, 5] (fun was k W => ∃ m : Nat, ∃ q : Int, m ≤ n ∧ k = .int .i64 m ∧ was = .int .i64 q ∧ Hid (q = lastUp c m) ∧ Hid (NewRow 2 w.heap.size W a1 (midUp c m) ∧ Below w.heap.size w W)) (fun _ k _ => n - (intOf k).toNat)
  case atStart => exact ⟨0, 0, Nat.zero_le _, rfl, rfl, rfl, HR1⟩
  case round =>
    clear HR1
    obtain ⟨m, q, hm, rfl, rfl, HQ, HW⟩ := hrel
    by_cases hlt : m < n
    · have hlen : (midUp c m).length = n := by rw [midUp_len, HL.out]
      obtain ⟨b, rfl, hB1, hB2⟩ := HW.out.1.some_of (by omega)
      have hcm := HW.out.1.cellAt (i := m) (by omega)
      have hfm := HW.out.1.frozenAt (by omega) m
      rw [midUp_at (Nat.le_refl _) (by rw [HL.out]; exact hlt)] at hcm
      have hst := midUp_step (c := c) (i := m) (by rw [HL.out]; exact hlt)
      have hkp := midUp_kept (c := c) (i := m) (by rw [HL.out]; exact hlt)
      have hls := lastUp_step (c := c) (i := m) (by rw [HL.out]; exact hlt)
      have hin := lastUp_in (fun x hx => (HC.out x hx).2) m (by rw [HL.out]; exact hm)
      have hcin : 0 ≤ c[m]?.getD 0 ∧ c[m]?.getD 0 ≤ 32768 := HC.out _ (by rw [List.getElem?_eq_getElem (by rw [HL.out]; exact hlt)]; exact List.getElem_mem _)
      have hcs := upCases (lastUp c m) (c[m]?.getD 0)
      rw [← HQ.out] at hcs hin hls hst hkp
      have hq : 0 ≤ q ∧ q ≤ 65536 := by omega
      generalize c[m]?.getD 0 = z at *
      rcases hcs with ⟨h1, h2⟩ | ⟨h1, h2⟩
      · rw [h2] at hst hls
        have HR2 : Hid (NewRow 2 w.heap.size (wr.setCell ⟨b, m, none⟩ (.int .i64 (q + 250))) (some ⟨b, 0, none⟩) (midUp c (m + 1)) ∧ Below w.heap.size w (wr.setCell ⟨b, m, none⟩ (.int .i64 (q + 250)))) :=
          ⟨by rw [hst]; exact HW.out.1.set m _, HW.out.2.setCell (p := ⟨b, m, none⟩) hB1 _⟩
        have HQ2 : Hid (q + 250 = lastUp c (m + 1)) := hls.symm
        clear hst hls hkp hin h2 HC HL HS HQ HW
        go_wp2
        go_roundw
        case rel => exact ⟨m + 1, _, by omega, by go_num, rfl, HQ2, HR2⟩
        case measure => simp [intOf]; omega
      · have HR2 : Hid (NewRow 2 w.heap.size wr (some ⟨b, 0, none⟩) (midUp c (m + 1)) ∧ Below w.heap.size w wr) := ⟨by rw [hkp h2]; exact HW.out.1, HW.out.2⟩
        have HQ2 : Hid (z = lastUp c (m + 1)) := by show _ = _; rw [hls, h2]
        clear hst hls hkp hin h2 HC HL HS HQ HW
        go_wp2
        go_roundw
        case rel => exact ⟨m + 1, _, by omega, by go_num, rfl, HQ2, HR2⟩
        case measure => simp [intOf]; omega
    · have hm' : m = n := by omega
      subst hm'
      obtain ⟨u, hu⟩ : ∃ u, upZ 0 c = u := ⟨_, rfl⟩
      have HUL : Hid (u.length = m) := by show _ = _; rw [← hu, upZ_len, HL.out]
      have HU0 : Hid (∀ x ∈ u, 0 ≤ x) := by show ∀ x ∈ u, 0 ≤ x; rw [← hu]; exact upZ_low c 0 (by decide)
      have HN0 : Hid (NewRow 2 w.heap.size wr a1 (midDn u m) ∧ Below w.heap.size w wr) := by
        refine ⟨?_, HW.out.2⟩
        rw [midDn_all HUL.out, ← hu, ← midUp_all HL.out]
        exact HW.out.1
      have HQ0 : Hid ((32768 : Int) = lastDn u m) := (lastDn_all HUL.out).symm
      have HS0 : Hid (steadyZ zs = midDn u 0) := by show _ = _; rw [HS.out, hu]
      clear HQ HW HS HC HL hu
      go_wp2
      go_loopw [4, 6] (fun was i W => ∃ t : Nat, ∃ q : Int, t ≤ m ∧ i = .int .i64 ((t : Int) - 1) ∧ was = .int .i64 q ∧ Hid (q = lastDn u t) ∧ Hid (NewRow 2 w.heap.size W a1 (midDn u t) ∧ Below w.heap.size w W)) (fun _ i _ => (intOf i + 1).toNat)
      case atStart => exact ⟨m, 32768, Nat.le_refl _, rfl, rfl, HQ0, HN0⟩
      case round =>
        clear HN0 HQ0
        obtain ⟨t1, q2, ht1, rfl, rfl, HQ, HW⟩ := hrel
        by_cases hlt : 0 < t1
        · obtain ⟨t, rfl⟩ : ∃ t, t1 = t + 1 := ⟨t1 - 1, by omega⟩
          have e1 : (((t + 1 : Nat) : Int) - 1) = (t : Int) := by omega
          rw [e1]
          have hlen : (midDn u (t + 1)).length = m := by rw [midDn_len, HUL.out]
          obtain ⟨b, rfl, hB1, hB2⟩ := HW.out.1.some_of (by omega)
          have hct := HW.out.1.cellAt (i := t) (by omega)
          have hft := HW.out.1.frozenAt (by omega) t
          rw [midDn_at (Nat.lt_succ_self t) (by rw [HUL.out]; omega)] at hct
          have hst := midDn_step (u := u) (j := t) (by rw [HUL.out]; omega)
          have hkp := midDn_kept (u := u) (j := t) (by rw [HUL.out]; omega)
          have hls := lastDn_step (u := u) (j := t) (by rw [HUL.out]; omega)
          have hin := lastDn_in HU0.out (m - (t + 1)) (t + 1) (by rw [HUL.out]; omega)
          have hcs := dnCases (lastDn u (t + 1)) (u[t]?.getD 0)
          rw [← HQ.out] at hcs hin hls hst hkp
          have hq : -65536 ≤ q2 ∧ q2 ≤ 65536 := by omega
          generalize u[t]?.getD 0 = z at *
          rcases hcs with ⟨h1, h2⟩ | ⟨h1, h2⟩
          · rw [h2] at hst hls
            have HR2 : Hid (NewRow 2 w.heap.size (wr.setCell ⟨b, t, none⟩ (.int .i64 (q2 - 250))) (some ⟨b, 0, none⟩) (midDn u t) ∧ Below w.heap.size w (wr.setCell ⟨b, t, none⟩ (.int .i64 (q2 - 250)))) :=
              ⟨by rw [hst]; exact HW.out.1.set t _, HW.out.2.setCell (p := ⟨b, t, none⟩) hB1 _⟩
            have HQ2 : Hid (q2 - 250 = lastDn u t) := hls.symm
            clear hst hls hkp hin h2 HQ HW HUL HU0 HS0
            go_wp2
            go_roundw
            case rel => exact ⟨t, _, by omega, by go_num, rfl, HQ2, HR2⟩
            case measure => simp [intOf]
          · have HR2 : Hid (NewRow 2 w.heap.size wr (some ⟨b, 0, none⟩) (midDn u t) ∧ Below w.heap.size w wr) := ⟨by rw [hkp h2]; exact HW.out.1, HW.out.2⟩
            have HQ2 : Hid (z = lastDn u t) := by show _ = _; rw [hls, h2]
            clear hst hls hkp hin h2 HQ HW HUL HU0 HS0
            go_wp2
            go_roundw
            case rel => exact ⟨t, _, by omega, by go_num, rfl, HQ2, HR2⟩
            case measure => simp [intOf]
        · obtain rfl : t1 = 0 := by omega
          have e1 : (((0 : Nat) : Int) - 1) = -1 := by omega
          rw [e1]
          go_wp2
          go_ret
          exact ⟨_, _, rfl, by rw [HS0.out]; exact HW.out.1, HW.out.2⟩

end Go.Proofs.Ytjaccokmficfdaa
