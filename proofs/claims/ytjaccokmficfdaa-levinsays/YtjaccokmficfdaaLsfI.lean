/- Frequencies told by an index, and frequencies between two, as the document's own answer and the program's call have them. -/
import Derived.Test.YtjaccokmficfdaaLsfH
namespace Go.Proofs.Ytjaccokmficfdaa
open Go.RowKit

set_option maxRecDepth 100000 in
set_option maxHeartbeats 2000000 in
theorem rdecode_good (order one : Int) (a : Option Addr) (n cap : Nat) (zs : List Int) (w : World) (hz : Zs w a n zs) (h : GoodX order one zs) :
    Calls Try.prog 39 #[.int .i64 order, .int .i64 one, .slice a n cap] w fun e w' => ∃ a' c', e = .returned (.slice a' n c') ∧ NewRow 2 w.heap.size w' a' (decodeZ order one zs) ∧ Below w.heap.size w w' := by
  have hl := hz.len
  have h16 := h.1
  have hno : (n : Int) = order := by have := h.2.2.2.1; omega
  have HZ : Hid (∀ W, Below w.heap.size w W → Zs W a n zs) := fun W hb => hz.keep hb
  have HL0 : Hid ((lsfL order one).length = n) := lsfL_len' h16 h.2.1 h.2.2.1 hno
  have HL1 : Hid ((rawL order one zs).length = n) := rawL_len hno
  have HA0 : Hid (∀ k, k < n → 250 ≤ (lsfL order one)[k]?.getD 0 ∧ (lsfL order one)[k]?.getD 0 ≤ 32518) := fun k hk => by
    rw [lsfL_at h16 h.2.1 h.2.2.1 (by omega)]
    exact lsfAt_in h16 h.2.1 h.2.2.1 (by omega)
  have HA1 : Hid (∀ k, k < n → (lsfL order one)[k]?.getD 0 + stepZ order * (zs[k]?.getD 0) = (rawL order one zs)[k]?.getD 0) := fun k hk => by
    rw [lsfL_at h16 h.2.1 h.2.2.1 (by omega), rawL_at (by omega)]
  have HV : Hid (∀ k, k < n → -4 ≤ zs[k]?.getD 0 ∧ zs[k]?.getD 0 ≤ 4) := fun k hk => h.2.2.2.2 _ (by rw [List.getElem?_eq_getElem (by omega)]; exact List.getElem_mem _)
  have HP : Hid (∀ v : Int, -4 ≤ v ∧ v ≤ 4 → -1600 ≤ stepZ order * v ∧ stepZ order * v ≤ 1600) := fun v hv => step_mul hv
  have HD : Hid (decodeZ order one zs = steadyZ (rawL order one zs)) := rfl
  have hn64 : n ≤ 64 := by omega
  have HE : Hid ((n : Int) = order) := hno
  have HU : Hid (∀ U, stepZ order = U → ∀ W, Calls Try.prog 54 #[.int .i64 (n : Int)] W fun e w' => e = .returned (.int .i64 U) ∧ w' = W) := fun U hU W => by subst hU; rw [hno]; exact rstep_any order W
  have HLS : Hid (∀ l0, lsfL order one = l0 → ∀ W, Calls Try.prog 53 #[.int .i64 (n : Int), .int .i64 one] W fun e w' => ∃ a cap, e = .returned (.slice a n cap) ∧ NewRow 2 W.heap.size w' a l0 ∧ Below W.heap.size W w') := fun l0 hl0 W => by
    have h2 := rlsf_any order one W
    rw [HL0.out, hl0] at h2
    rw [hno]
    exact h2
  clear h hz h16 hl
  rw [← hno]
  clear hno
  obtain ⟨l0, hl0⟩ : ∃ l0, lsfL order one = l0 := ⟨_, rfl⟩
  have HLS2 : Hid (∀ W, Calls Try.prog 53 #[.int .i64 (n : Int), .int .i64 one] W fun e w' => ∃ a cap, e = .returned (.slice a n cap) ∧ NewRow 2 W.heap.size w' a l0 ∧ Below W.heap.size W w') := HLS.out l0 hl0
  rw [hl0] at HL0 HA0 HA1
  clear HLS hl0
  obtain ⟨U, hU⟩ : ∃ U, stepZ order = U := ⟨_, rfl⟩
  have HU2 : Hid (∀ W, Calls Try.prog 54 #[.int .i64 (n : Int)] W fun e w' => e = .returned (.int .i64 U) ∧ w' = W) := HU.out U hU
  rw [hU] at HA1 HP
  clear HU hU
  generalize rawL order one zs = L at *
  rw [HE.out]
  have HD2 : Hid (decodeZ order one zs = steadyZ L) := HD
  rw [HD2.out, ← HE.out]
  clear HD HD2 HE
  go_enter Try.func39, Try.ntmps39
  go_wp2_with (go_at_call 53; refine (HLS2.out _).mono ?_; rintro e w3 ⟨a3, c3, rfl, hn3, hb3⟩)
  have HN3 : Hid (NewRow 2 w.heap.size w3 a3 l0 ∧ Below w.heap.size w w3) := ⟨hn3, hb3⟩
  clear hn3 hb3 HLS2
  go_loopw [8] (fun k W => ∃ m : Nat, m ≤ n ∧ k = .int .i64 m ∧ Hid (NewRow 2 w.heap.size W a3 (mixL L l0 m) ∧ Below w.heap.size w W)) (fun k _ => n - (intOf k).toNat)
  case atStart => exact ⟨0, Nat.zero_le _, rfl, HN3⟩
  case round =>
    clear HN3
    obtain ⟨m, hm, rfl, HW⟩ := hrel
    have hlen := mixL_len HL1.out HL0.out hm
    by_cases hlt : m < n
    · obtain ⟨b, rfl, hB1, hB2⟩ := HW.out.1.some_of (by omega)
      obtain ⟨b2, o2, rfl, hb2, hc2⟩ := (HZ.out wr HW.out.2).at_ (by omega)
      have hcv := hc2 m hlt
      have hcm := HW.out.1.cellAt (i := m) (by omega)
      have hfm := HW.out.1.frozenAt (by omega) m
      rw [mixL_at HL1.out HL0.out hlt] at hcm
      have hst := mixL_step HL1.out HL0.out hlt
      have h1 := HA1.out m hlt
      have h0 := HA0.out m hlt
      have hv := HV.out m hlt
      have hp := HP.out _ hv
      generalize zs[m]?.getD 0 = v at *
      generalize l0[m]?.getD 0 = z at *
      generalize L[m]?.getD 0 = y at *
      subst h1
      have HR2 : Hid (NewRow 2 w.heap.size (wr.setCell ⟨b, m, none⟩ (.int .i64 (z + U * v))) (some ⟨b, 0, none⟩) (mixL L l0 (m + 1)) ∧ Below w.heap.size w (wr.setCell ⟨b, m, none⟩ (.int .i64 (z + U * v)))) :=
        ⟨by rw [hst]; exact HW.out.1.set m _, HW.out.2.setCell (p := ⟨b, m, none⟩) hB1 _⟩
      have HWR : Hid (IntKind.i64.wrap (U * v) = U * v) := by show _ = _; rw [IntKind.wrap_i64]; omega
      have HWS : Hid (IntKind.i64.wrap (z + U * v) = z + U * v) := by show _ = _; rw [IntKind.wrap_i64]; omega
      clear hst hc2 HA0 HA1 HV HP HL0 HL1 HZ HW hlen
      go_wp2
      go_region_with (go_at_call 54; refine (HU2.out _).mono ?_; rintro e w5 ⟨rfl, rfl⟩)
      all_goals
        rw [HWR.out, HWS.out]
        go_wp2
        go_roundw
        case rel => exact ⟨m + 1, by omega, by go_num, HR2.out.1.drew, HR2.out.2.drew⟩
        case measure => simp [intOf]; omega
    · have hm' : m = n := by omega
      subst hm'
      rw [mixL_all HL1.out HL0.out] at HW
      have HS : Hid (Zs wr a3 m L) := Zs.of_new HW.out.1 HL1.out
      have HB : Hid (Below w.heap.size w wr) := HW.out.2
      have hsz := HW.out.2.size
      clear HW HV HA1 HA0 HP HZ
      go_wp2_with (go_at_call 55; refine (rsteady_any _ _ _ L _ HS.out hn64).mono ?_; rintro e w6 ⟨a6, c6, rfl, hn6, hb6⟩)
      go_ret
      exact ⟨_, _, rfl, hn6.mono hsz, HB.out.trans (hb6.mono hsz)⟩

/-! ### Between two -/
def betweenL (xs ys : List Int) (v : Int) (n : Nat) : List Int := (List.range n).map fun k => betweenZ (atN xs k) (atN ys k) v
theorem betweenL_len (xs ys : List Int) (v : Int) (n : Nat) : (betweenL xs ys v n).length = n := by unfold betweenL; rw [List.length_map, List.length_range]
theorem betweenL_at {xs ys : List Int} {v : Int} {n k : Nat} (hk : k < n) : (betweenL xs ys v n)[k]?.getD 0 = clZ 0 32768 (xs[k]?.getD 0) + (clZ 0 32768 (ys[k]?.getD 0) - clZ 0 32768 (xs[k]?.getD 0)) * v / 4 := map_range_at _ _ _ hk
theorem way_in {x y v : Int} (hx : 0 ≤ x ∧ x ≤ 32768) (hy : 0 ≤ y ∧ y ≤ 32768) (hv : 0 ≤ v ∧ v ≤ 4) : -131072 ≤ (y - x) * v ∧ (y - x) * v ≤ 131072 := by
  have : v = 0 ∨ v = 1 ∨ v = 2 ∨ v = 3 ∨ v = 4 := by omega
  rcases this with rfl | rfl | rfl | rfl | rfl <;> omega

end Go.Proofs.Ytjaccokmficfdaa
