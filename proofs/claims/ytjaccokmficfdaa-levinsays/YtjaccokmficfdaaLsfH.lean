/- Frequencies told by an index: what the program's call, and the document's own answer, come to. -/
import Derived.Test.YtjaccokmficfdaaLsfF
import Derived.Test.YtjaccokmficfdaaLsfG
import Derived.Deep.RegionWith
namespace Go.Proofs.Ytjaccokmficfdaa
open Go.RowKit

theorem lsfL_len' {order i : Int} {n : Nat} (h : order = 10 ∨ order = 16) (h0 : 0 ≤ i) (h1 : i ≤ 15) (hn : (n : Int) = order) : (lsfL order i).length = n := by
  rw [lsf_some h h0 h1, List.length_map, List.length_range]
  omega
theorem lsfL_at {order i : Int} {k : Nat} (h : order = 10 ∨ order = 16) (h0 : 0 ≤ i) (h1 : i ≤ 15) (hk : k < order.toNat) : (lsfL order i)[k]?.getD 0 = lsfAt order i k := by
  rw [lsf_some h h0 h1]
  exact map_range_at _ _ _ hk
def rawL (order one : Int) (two : List Int) : List Int := (List.range order.toNat).map (rawZ order one two)
theorem rawL_len {order one : Int} {two : List Int} {n : Nat} (hn : (n : Int) = order) : (rawL order one two).length = n := by
  unfold rawL
  rw [List.length_map, List.length_range]
  omega
theorem rawL_at {order one : Int} {two : List Int} {k : Nat} (hk : k < order.toNat) : (rawL order one two)[k]?.getD 0 = lsfAt order one k + stepZ order * (two[k]?.getD 0) := map_range_at _ _ _ hk
theorem step_mul {order v : Int} (hv : -4 ≤ v ∧ v ≤ 4) : -1600 ≤ stepZ order * v ∧ stepZ order * v ≤ 1600 := by
  rcases stepZ_in order with e | e <;> rw [e] <;> omega

set_option maxHeartbeats 1000000 in
theorem decode_bad (order one : Int) (a : Option Addr) (n cap : Nat) (zs : List Int) (w : World) (hz : Zs w a n zs) (hn : n ≤ maxLen) (h : ¬ GoodX order one zs) :
    Calls Try.prog 47 #[.int .i64 order, .agg #[.int .i64 one, .slice a n cap]] w fun e w' => e = .returned (.tuple #[.slice none 0 0, .int .i64 1]) ∧ Below w.heap.size w w' := by
  have HG : Hid (∀ W, Below w.heap.size w W → Calls Try.prog 57 #[.int .i64 order, .agg #[.int .i64 one, .slice a n cap]] W fun e w' => e = .returned (.bool false) ∧ Below W.heap.size W w') := fun W hb => by
    refine (igood_any order one a n cap zs W (hz.keep hb) hn).mono ?_
    rintro e w' ⟨bb, rfl, hbb, hb2⟩
    refine ⟨?_, hb2⟩
    cases bb
    · rfl
    · exact absurd (hbb.1 rfl) h
  clear h hz
  have hb := (Below.refl w.heap.size w).alloc (Nat.le_refl _) (.cells #[.int .i64 one, .slice a n cap] 56)
  go_enter Try.func47, Try.ntmps47
  go_wp2_with (go_at_call 57; refine (HG.out _ hb).mono ?_; rintro e w2 ⟨rfl, hb2⟩; replace hb := hb.trans (hb2.mono hb.size); clear hb2)
  go_ret2
  exact ⟨rfl, hb⟩

set_option maxRecDepth 100000 in
set_option maxHeartbeats 2000000 in
theorem decode_good (order one : Int) (a : Option Addr) (n cap : Nat) (zs : List Int) (w : World) (hz : Zs w a n zs) (hn : n ≤ maxLen) (h : GoodX order one zs) :
    Calls Try.prog 47 #[.int .i64 order, .agg #[.int .i64 one, .slice a n cap]] w fun e w' => ∃ a', e = .returned (.tuple #[.slice a' n n, .int .i64 0]) ∧ NewRow 2 w.heap.size w' a' (decodeZ order one zs) ∧ Below w.heap.size w w' := by
  have HG : Hid (∀ W, Below w.heap.size w W → Calls Try.prog 57 #[.int .i64 order, .agg #[.int .i64 one, .slice a n cap]] W fun e w' => e = .returned (.bool true) ∧ Below W.heap.size W w') := fun W hb => by
    refine (igood_any order one a n cap zs W (hz.keep hb) hn).mono ?_
    rintro e w' ⟨bb, rfl, hbb, hb2⟩
    refine ⟨?_, hb2⟩
    rw [hbb.2 h]
  have hl := hz.len
  have h16 := h.1
  have hno : (n : Int) = order := by have := h.2.2.2.1; omega
  have HZ : Hid (∀ W, Below w.heap.size w W → Zs W a n zs) := fun W hb => hz.keep hb
  have HL0 : Hid ((lsfL order one).length = n) := lsfL_len' h16 h.2.1 h.2.2.1 hno
  have HL1 : Hid ((rawL order one zs).length = n) := rawL_len hno
  have HA0 : Hid (∀ k, k < n → 250 ≤ (lsfL order one)[k]?.getD 0 ∧ (lsfL order one)[k]?.getD 0 ≤ 32518) := fun k hk => by
    rw [lsfL_at h16 h.2.1 h.2.2.1 (by omega)]
    exact lsfAt_in h16 h.2.1 h.2.2.1 (by omega)
  have HA1 : Hid (∀ k, k < n → (lsfL order one)[k]?.getD 0 + stepZ order * (zs[k]?.getD 0) = (rawL order one zs)[k]?.getD 0) := fun k hk => by
    rw [lsfL_at h16 h.2.1 h.2.2.1 (by omega), rawL_at (by omega)]
  have HV : Hid (∀ k, k < n → -4 ≤ zs[k]?.getD 0 ∧ zs[k]?.getD 0 ≤ 4) := fun k hk => h.2.2.2.2 _ (by rw [List.getElem?_eq_getElem (by omega)]; exact List.getElem_mem _)
  have HP : Hid (∀ v : Int, -4 ≤ v ∧ v ≤ 4 → -1600 ≤ stepZ order * v ∧ stepZ order * v ≤ 1600) := fun v hv => step_mul hv
  have HU : Hid (unitI order = stepZ order) := unitI_step h16
  have HD : Hid (decodeZ order one zs = steadyZ (rawL order one zs)) := rfl
  have hn64 : n ≤ 64 := by omega
  clear h hz h16 hl
  have hb := (Below.refl w.heap.size w).alloc (Nat.le_refl _) (.cells #[.int .i64 one, .slice a n cap] 56)
  have hk0 : (w.alloc (.cells #[.int .i64 one, .slice a n cap] 56)).cell? ⟨w.heap.size, 0, none⟩ = some (.int .i64 one) := by rw [World.cell?_alloc_new]; rfl
  have hk1 : (w.alloc (.cells #[.int .i64 one, .slice a n cap] 56)).cell? ⟨w.heap.size, 1, none⟩ = some (.slice a n cap) := by rw [World.cell?_alloc_new]; rfl
  have HK : Hid (∀ W, Below (w.heap.size + 1) (w.alloc (.cells #[.int .i64 one, .slice a n cap] 56)) W → W.cell? ⟨w.heap.size, 0, none⟩ = some (.int .i64 one) ∧ W.cell? ⟨w.heap.size, 1, none⟩ = some (.slice a n cap)) := fun W hW => ⟨(hW.cell (p := ⟨w.heap.size, 0, none⟩) (Nat.lt_succ_self _)).trans hk0, (hW.cell (p := ⟨w.heap.size, 1, none⟩) (Nat.lt_succ_self _)).trans hk1⟩
  clear hk0 hk1
  generalize hl0 : lsfL order one = l0 at *
  have HLE : Hid (lsfL order one = l0) := hl0
  clear hl0
  generalize rawL order one zs = L at *
  generalize stepZ order = U at *
  go_enter Try.func47, Try.ntmps47
  go_wp2_with (first
    | (go_at_call 57; refine (HG.out _ hb).mono ?_; rintro e w2 ⟨rfl, hb2⟩; rw [World.size_alloc] at hb2; obtain ⟨k0, k1⟩ := HK.out w2 hb2; replace hb := hb.trans (hb2.mono (Nat.le_succ _)))
    | (go_at_call 58; refine (lsf_any _ _ _).mono ?_; rw [HLE.out, HL0.out]; rintro e w3 ⟨a3, c3, rfl, hn3, hb3⟩; have HN3 : Hid (NewRow 2 w.heap.size w3 a3 l0 ∧ Below w.heap.size w w3) := ⟨hn3.mono hb.size, hb.trans (hb3.mono hb.size)⟩; have hb4 := hb2.trans (hb3.mono (by have := hb2.size; simp at this; omega)); obtain ⟨k2, k3⟩ := HK.out w3 hb4))
  clear hn3 hb3 hb4 hb2 hb k0 k1 k2 k3 HK HG
  go_loopw [7, 8, 20] (fun _ _ k W => ∃ m : Nat, m ≤ n ∧ k = .int .i64 m ∧ Hid (NewRow 2 w.heap.size W a3 (mixL L l0 m) ∧ Below w.heap.size w W)) (fun _ _ k _ => n - (intOf k).toNat)
  case atStart => exact ⟨0, Nat.zero_le _, rfl, HN3⟩
  case round =>
    clear HN3
    obtain ⟨m, hm, rfl, HW⟩ := hrel
    have hlen := mixL_len HL1.out HL0.out hm
    by_cases hlt : m < n
    · obtain ⟨b, rfl, hB1, hB2⟩ := HW.out.1.some_of (by omega)
      obtain ⟨b2, o2, rfl, hb2, hc2⟩ := (HZ.out wr HW.out.2).at_ (by omega)
      have hcv := hc2 m hlt
      have hcm := HW.out.1.cellAt (i := m) (by omega)
      have hfm := HW.out.1.frozenAt (by omega) m
      rw [mixL_at HL1.out HL0.out hlt] at hcm
      have hst := mixL_step HL1.out HL0.out hlt
      have h1 := HA1.out m hlt
      have h0 := HA0.out m hlt
      have hv := HV.out m hlt
      have hp := HP.out _ hv
      generalize zs[m]?.getD 0 = v at *
      generalize l0[m]?.getD 0 = z at *
      generalize L[m]?.getD 0 = y at *
      subst h1
      have HR2 : Hid (NewRow 2 w.heap.size (wr.setCell ⟨b, m, none⟩ (.int .i64 (z + U * v))) (some ⟨b, 0, none⟩) (mixL L l0 (m + 1)) ∧ Below w.heap.size w (wr.setCell ⟨b, m, none⟩ (.int .i64 (z + U * v)))) :=
        ⟨by rw [hst]; exact HW.out.1.set m _, HW.out.2.setCell (p := ⟨b, m, none⟩) hB1 _⟩
      have HWR : Hid (IntKind.i64.wrap (U * v) = U * v) := by show _ = _; rw [IntKind.wrap_i64]; omega
      have HWS : Hid (IntKind.i64.wrap (z + U * v) = z + U * v) := by show _ = _; rw [IntKind.wrap_i64]; omega
      clear hst hc2 HA0 HA1 HV HP HD HL0 HL1 HLE HZ HW hlen
      go_wp2
      go_region_with (go_at_call 59; refine (unit_any _ _).mono ?_; rw [HU.out]; rintro e w5 ⟨rfl, rfl⟩)
      all_goals
        rw [HWR.out, HWS.out]
        go_wp2
        go_roundw
        case rel => exact ⟨m + 1, by omega, by go_num, HR2.out.1.drew, HR2.out.2.drew⟩
        case measure => simp [intOf]; omega
    · have hm' : m = n := by omega
      subst hm'
      rw [mixL_all HL1.out HL0.out] at HW
      have HS : Hid (Zs wr a3 m L) := Zs.of_new HW.out.1 HL1.out
      have HB : Hid (Below w.heap.size w wr) := HW.out.2
      have hsz := HW.out.2.size
      clear HW HV HA1 HA0 HP HZ HLE
      go_wp2_with (go_at_call 60; refine (steady_any _ _ _ L _ HS.out hn64).mono ?_; rintro e w6 ⟨a6, rfl, hn6, hb6⟩)
      go_ret2
      exact ⟨_, rfl, by rw [HD.out]; exact hn6.mono hsz, HB.out.trans (hb6.mono hsz)⟩

end Go.Proofs.Ytjaccokmficfdaa
