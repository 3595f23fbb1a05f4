/- Frequencies kept apart: what the program's call comes to. -/
import Derived.Test.YtjaccokmficfdaaLsfE
namespace Go.Proofs.Ytjaccokmficfdaa
open Go.RowKit Go.Shelf

attribute [local go_sem] Oper.semAt_some

theorem steady_far (a : Option Addr) (n cap : Nat) (w : World) (h : 64 < n) (_hn : n ≤ 9223372036854775807) :
    Calls Try.prog 60 #[.slice a n cap] w fun e w' => e = .returned (.slice none 0 0) ∧ w' = w := by
  go_enter Try.func60, Try.ntmps60
  go_wp2
  go_ret
  exact ⟨rfl, rfl⟩

theorem newRow_own {α : Type} (e : TypeId) (B : Nat) (a : Option Addr) (f : α → List Int) : Own (fun s W => NewRow e B W a (f s)) := fun s X Y row hs hg hr => by
  rcases hs with h | ⟨b, c, ha, hB, hh, hc⟩
  · exact .inl h
  · refine .inr ⟨b, c, ha, hB, (hg.block b (Array.getElem?_eq_some_iff.1 hh).1 fun e => ?_).trans hh, hc⟩
    obtain ⟨o, ho, hoc⟩ := hr b e.symm
    rw [hh] at ho
    cases ho
    cases hoc

theorem atLeast_cases (was x : Int) : (x < was + 250 ∧ atLeast was x = was + 250) ∨ (was + 250 ≤ x ∧ atLeast was x = x) := by
  unfold atLeast
  by_cases h : x < was + 250
  · exact .inl ⟨h, if_pos h⟩
  · exact .inr ⟨by omega, if_neg h⟩
theorem atMost_cases (was x : Int) : (was - 250 < x ∧ atMost was x = was - 250) ∨ (x ≤ was - 250 ∧ atMost was x = x) := by
  unfold atMost
  by_cases h : was - 250 < x
  · exact .inl ⟨h, if_pos h⟩
  · exact .inr ⟨by omega, if_neg h⟩

set_option maxRecDepth 100000 in
set_option maxHeartbeats 4000000 in
theorem steady_any (a : Option Addr) (n cap : Nat) (zs : List Int) (w : World) (hz : Zs w a n zs) (hn : n ≤ 64) :
    Calls Try.prog 60 #[.slice a n cap] w fun e w' => ∃ a', e = .returned (.slice a' n n) ∧ NewRow 2 w.heap.size w' a' (steadyZ zs) ∧ Below w.heap.size w w' := by
  have HC : Hid (∀ x ∈ clL zs, 0 ≤ x ∧ x ≤ 32768) := fun x hx => clL_in x hx
  have HL : Hid ((clL zs).length = n) := by show _ = _; rw [clL_len, hz.len]
  have HS : Hid (steadyZ zs = midDn (upZ 0 (clL zs)) 0) := steadyZ_is zs
  have HZ : Hid (Zs w a n zs) := hz
  clear hz
  refine (callsIn_wide (n := 3)).1 ?_
  refine callsIn_of_wp_marks Try.func60 rfl trivial ?_ rfl
  simp only [Try.ntmps60, List.size_toArray, List.length_cons, List.length_nil, Nat.reduceAdd, Nat.reduceSub, Array.replicate_succ, Array.replicate_zero, List.push_toArray, List.append_toArray, List.nil_append, List.cons_append]
  gi_wp2_with (refine ⟨trivial, ?_⟩; gi_at_call 65; refine (callsIn_wide.2 (clampAll_any _ _ _ zs _ HZ.out (by omega))).mono ?_; rintro e w1 ⟨a1, rfl, hr1, hb1⟩)
  have HR1 : Hid (NewRow 2 w.heap.size (w1.alloc (.cells #[.slice a1 n n] 23)) a1 (midUp (clL zs) 0) ∧ Below w.heap.size w (w1.alloc (.cells #[.slice a1 n n] 23))) := ⟨by rw [midUp_zero]; exact hr1.alloc _, hb1.alloc hb1.size _⟩
  have HA : Hid (0 < n → ∃ b, a1 = some ⟨b, 0, none⟩ ∧ w.heap.size ≤ b ∧ b < w1.heap.size) := fun h => hr1.some_of (by rw [HL.out]; exact h)
  have hbox := Boxed.new w1 23 (.slice a1 n n)
  have hge := hb1.size
  clear hr1 hb1 HZ
  generalize clL zs = c at *
  gi_loopw [4, 5, 6, 17] (fun least _ _ k W => ∃ m : Nat, ∃ q : Int, m ≤ n ∧ k = .int .i64 m ∧ least = .int .i64 q ∧ Hid (q = lastUp c m + 250) ∧ Hid (NewRow 2 w.heap.size W a1 (midUp c m) ∧ Below w.heap.size w W) ∧ Boxed W w1.heap.size 23 (.slice a1 n n)) (fun _ _ _ k _ => n - (intOf k).toNat)
  case atStart => exact ⟨0, 250, Nat.zero_le _, rfl, rfl, rfl, HR1, hbox⟩
  case round =>
    clear hbox
    obtain ⟨m, q, hm, rfl, rfl, HQ, HW, hbox⟩ := hrel
    have hbc := hbox.cell
    have hbf := hbox.frozen
    have hbl := hbox.lt
    by_cases hlt : m < n
    · obtain ⟨b, rfl, hB1, hB2⟩ := HA.out (by omega)
      have hlen : (midUp c m).length = n := by rw [midUp_len, HL.out]
      have hcm := HW.out.1.cellAt (i := m) (by omega)
      have hfm := HW.out.1.frozenAt (by omega) m
      rw [midUp_at (Nat.le_refl _) (by rw [HL.out]; exact hlt)] at hcm
      have hst := midUp_step (c := c) (i := m) (by rw [HL.out]; exact hlt)
      have hls := lastUp_step (c := c) (i := m) (by rw [HL.out]; exact hlt)
      have hin := lastUp_in (fun x hx => (HC.out x hx).2) m (by rw [HL.out]; exact hm)
      have hcin : 0 ≤ c[m]?.getD 0 ∧ c[m]?.getD 0 ≤ 32768 := HC.out _ (by rw [List.getElem?_eq_getElem (by rw [HL.out]; exact hlt)]; exact List.getElem_mem _)
      have hcs := atLeast_cases (lastUp c m) (c[m]?.getD 0)
      rw [← HQ.out] at hcs
      obtain ⟨v, hv⟩ : ∃ v, atLeast (lastUp c m) (c[m]?.getD 0) = v := ⟨_, rfl⟩
      rw [hv] at hst hls hcs
      have hvin : 250 ≤ v ∧ v ≤ 65536 := by have := HQ.out; omega
      have HR2 : Hid (NewRow 2 w.heap.size (wr.setCell ⟨b, m, none⟩ (.int .i64 v)) (some ⟨b, 0, none⟩) (midUp c (m + 1)) ∧ Below w.heap.size w (wr.setCell ⟨b, m, none⟩ (.int .i64 v))) :=
        ⟨by rw [hst]; exact HW.out.1.set m v, HW.out.2.setCell (p := ⟨b, m, none⟩) hB1 _⟩
      have hbox2 : Boxed (wr.setCell ⟨b, m, none⟩ (.int .i64 v)) w1.heap.size 23 (.slice (some ⟨b, 0, none⟩) n n) := (Below.heap_setCell wr ⟨b, m, none⟩ _ _ (by show w1.heap.size ≠ b; omega)).trans hbox
      have HQ2 : Hid (v + 250 = lastUp c (m + 1) + 250) := by show _ = _; rw [hls]
      have hne : b ≠ w1.heap.size := by omega
      generalize c[m]?.getD 0 = z at *
      clear hst hls hin HA HC HL HS HR1
      rcases hcs with ⟨h1, rfl⟩ | ⟨h1, rfl⟩
      all_goals
        gi_wp2
        all_goals first | (exfalso; omega) | skip
        all_goals
          go_roundw
          case rel => exact ⟨m + 1, _, by omega, by go_num, rfl, HQ2, HR2, hbox2⟩
          case measure => simp [intOf]; omega
    · have hm' : m = n := by omega
      subst hm'
      obtain ⟨u, hu⟩ : ∃ u, upZ 0 c = u := ⟨_, rfl⟩
      have hul : u.length = m := by rw [← hu, upZ_len, HL.out]
      have hu0 : ∀ x ∈ u, 0 ≤ x := by rw [← hu]; exact upZ_low c 0 (by decide)
      have HN0 : Hid (NewRow 2 w.heap.size wr a1 (midDn u m)) := by
        show NewRow _ _ _ _ _
        rw [midDn_all hul, ← hu, ← midUp_all HL.out]
        exact HW.out.1
      have HB0 : Hid (Below w.heap.size w wr) := HW.out.2
      have HQ0 : Hid (lastDn u m = 32768) := lastDn_all hul
      have HS0 : Hid (steadyZ zs = midDn u 0) := by show _ = _; rw [HS.out, hu]
      have hsz := HW.out.2.size
      have HUL : Hid (u.length = m) := hul
      have HU0 : Hid (∀ x ∈ u, 0 ≤ x) := hu0
      clear HQ HW HS HR1 HC HL hu hul hu0
      gi_wp2_with (refine ⟨trivial, ?_⟩; gi_at_call 66; refine (backward_in _ _ trivial rfl _ _ _ _).mono ?_; rintro e w2 ⟨rfl, rfl⟩)
      have bM0 := Boxed.new wr 2 (.int .i64 32518)
      have bI0 := Boxed.new (wr.alloc (.cells #[.int .i64 32518] 2)) 23 (.slice a1 m m)
      rw [World.size_alloc] at bI0
      refine wpIn_range_all (α := Nat × Int) rfl (by decide) (gf := 70) (lb := #[.pointer (some ⟨wr.heap.size + 1, 0, none⟩)]) rfl trivial (enters_of Try.func70 (by kernel_rfl) rfl)
        (encs := fun x => #[.int .i64 (x.1 : Int), .int .i64 x.2]) (fun _ => rfl)
        (fun pre x => ∃ k, k < m ∧ pre = downN u k ∧ x = (m - 1 - k, atN u (m - 1 - k))) (fun xs => xs = downN u m)
        (fun pre W => (Boxed W w1.heap.size 23 (.slice a1 m m) ∧ Boxed W wr.heap.size 2 (.int .i64 (lastDn u (m - pre.length) - 250)) ∧ Boxed W (wr.heap.size + 1) 23 (.slice a1 m m) ∧ NewRow 2 w.heap.size W a1 (midDn u (m - pre.length))) ∧ Below w.heap.size w W)
        (OwnFrom.and (Own.from (fun s A B row hs hg hr => ⟨boxed_own _ _ (fun _ : List (Nat × Int) => Value.slice a1 m m) s A B row hs.1 hg hr, boxed_own _ _ (fun s : List (Nat × Int) => Value.int .i64 (lastDn u (m - s.length) - 250)) s A B row hs.2.1 hg hr, boxed_own _ _ (fun _ : List (Nat × Int) => Value.slice a1 m m) s A B row hs.2.2.1 hg hr, newRow_own _ _ _ (fun s : List (Nat × Int) => midDn u (m - s.length)) s A B row hs.2.2.2 hg hr⟩) _) (ownFrom_below (Nat.le_refl _) (by simp; omega)))
        ⟨⟨(hbox.alloc _).alloc _, by rw [List.length_nil, Nat.sub_zero, HQ0.out]; exact bM0.alloc _, bI0, by rw [List.length_nil, Nat.sub_zero]; exact (HN0.out.alloc _).alloc _⟩, (HB0.out.alloc hsz _).alloc (by simp; omega) _⟩
        (fun x => { tmps := #[.slice a m cap, undef, .slice none 0 0, .pointer (some ⟨w1.heap.size, 0, none⟩), .int .i64 q, u5, u6, .pointer (some ⟨wr.heap.size, 0, none⟩), .int .i64 (x.1 : Int), .int .i64 x.2,
          .slice a m cap, .int .i64 (m : Int), .bool (decide (64 < (m : Int))), .slice a m cap, .slice a1 m m, .slice a1 m m, .int .i64 (m : Int), .int .i64 (m : Int), .bool false,
          u19, u20, u21, u22, u23, u24, u25, u26, u27, u28, u29, u30, u31, u32, u33, .slice a1 m m, .func (.func 70) #[] #[.pointer (some ⟨wr.heap.size + 1, 0, none⟩)], .int .i64 (x.1 : Int), .int .i64 x.2,
          undef, undef, undef, undef, undef, undef, undef, undef, undef, undef, undef, undef], defers := [] }) ?iter ?assign ?body ?done
      case iter =>
        intro l J W hJI hY h0
        refine back_rounds Fence.wide (3 - 1) trivial rfl (by decide) l (wr.heap.size + 1) m m a1 u HUL.out (by omega) J (fun k W2 hk hj => ?_) hY W h0
        obtain ⟨⟨_, _, hI2, hN2⟩, _⟩ := hJI _ _ hj
        rw [downN_len] at hN2
        refine ⟨hI2.cell, fun j hj2 => ?_⟩
        have hlen : (midDn u (m - k)).length = m := by rw [midDn_len, HUL.out]
        obtain ⟨b, rfl, _⟩ := hN2.some_of (by omega)
        refine ⟨b, rfl, ?_⟩
        rw [hN2.cellAt (by omega), midDn_at hj2 (by rw [HUL.out]; omega)]
        rfl
      case assign =>
        intro l x W K hK
        gi_wp2
        exact hK
      case body =>
        rintro l pre x W ⟨⟨hS2, hM2, hI2, hN2⟩, hB2⟩ ⟨k, hk, rfl, rfl⟩
        rw [downN_len] at hM2 hN2
        obtain ⟨t, ht⟩ : ∃ t, m - 1 - k = t := ⟨_, rfl⟩
        have e1 : m - k = t + 1 := by omega
        have e2 : m - (k + 1) = t := by omega
        rw [e1] at hM2 hN2
        rw [ht]
        have hlt : t < m := by omega
        obtain ⟨b, rfl, hb1, hb2⟩ := HA.out (by omega)
        have hlen : (midDn u (t + 1)).length = m := by rw [midDn_len, HUL.out]
        have hct := hN2.cellAt (i := t) (by omega)
        rw [midDn_at (Nat.lt_succ_self t) (by rw [HUL.out]; omega)] at hct
        have hft := hN2.frozenAt (by omega) t
        have hst := midDn_step (u := u) (j := t) (by rw [HUL.out]; omega)
        have hls := lastDn_step (u := u) (j := t) (by rw [HUL.out]; omega)
        have hin := lastDn_in HU0.out (m - (t + 1)) (t + 1) (by rw [HUL.out]; omega)
        have huin : 0 ≤ u[t]?.getD 0 := HU0.out _ (by rw [List.getElem?_eq_getElem (by rw [HUL.out]; omega)]; exact List.getElem_mem _)
        have hcs := atMost_cases (lastDn u (t + 1)) (u[t]?.getD 0)
        obtain ⟨v, hv⟩ : ∃ v, atMost (lastDn u (t + 1)) (u[t]?.getD 0) = v := ⟨_, rfl⟩
        rw [hv] at hst hls hcs
        have e3 : u[t]?.getD 0 = atN u t := rfl
        rw [e3] at hct hcs huin
        obtain ⟨q2, hq2⟩ : ∃ q2, lastDn u (t + 1) - 250 = q2 := ⟨_, rfl⟩
        have hq3 : -65536 ≤ q2 ∧ q2 ≤ 32768 := by omega
        have hcs2 : (q2 < atN u t ∧ v = q2) ∨ (atN u t ≤ q2 ∧ v = atN u t) := by omega
        have hvin : -65536 ≤ v ∧ v ≤ 32768 := by omega
        rw [hq2] at hM2
        have hbM := hM2.cell
        have hfM := hM2.frozen
        have hbS := hS2.cell
        have hne1 : b ≠ w1.heap.size := by omega
        have hne2 : b ≠ wr.heap.size := by omega
        have hne3 : w1.heap.size ≠ wr.heap.size := by omega
        have HG : Hid ((∀ B, KeepsFrom B W ((W.setCell ⟨b, t, none⟩ (.int .i64 v)).setCell ⟨wr.heap.size, 0, none⟩ (.int .i64 (v - 250)))) ∧
            (Boxed ((W.setCell ⟨b, t, none⟩ (.int .i64 v)).setCell ⟨wr.heap.size, 0, none⟩ (.int .i64 (v - 250))) w1.heap.size 23 (.slice (some ⟨b, 0, none⟩) m m) ∧
              Boxed ((W.setCell ⟨b, t, none⟩ (.int .i64 v)).setCell ⟨wr.heap.size, 0, none⟩ (.int .i64 (v - 250))) wr.heap.size 2 (.int .i64 (lastDn u (m - (downN u k ++ [(t, atN u t)]).length) - 250)) ∧
              Boxed ((W.setCell ⟨b, t, none⟩ (.int .i64 v)).setCell ⟨wr.heap.size, 0, none⟩ (.int .i64 (v - 250))) (wr.heap.size + 1) 23 (.slice (some ⟨b, 0, none⟩) m m) ∧
              NewRow 2 w.heap.size ((W.setCell ⟨b, t, none⟩ (.int .i64 v)).setCell ⟨wr.heap.size, 0, none⟩ (.int .i64 (v - 250))) (some ⟨b, 0, none⟩) (midDn u (m - (downN u k ++ [(t, atN u t)]).length))) ∧
            Below w.heap.size w ((W.setCell ⟨b, t, none⟩ (.int .i64 v)).setCell ⟨wr.heap.size, 0, none⟩ (.int .i64 (v - 250)))) := by
          have el : m - (downN u k ++ [(t, atN u t)]).length = t := by rw [List.length_append, downN_len]; exact e2
          rw [el, hls, hst]
          refine ⟨fun B => ((KeepsOthers.setCell _ _ _).trans (KeepsOthers.setCell _ _ _)).from B, ⟨?_, ?_, ?_, ?_⟩, (hB2.setCell (p := ⟨b, t, none⟩) hb1 _).setCell (p := ⟨wr.heap.size, 0, none⟩) hsz _⟩
          · exact (Below.heap_setCell _ _ _ _ hne3).trans ((Below.heap_setCell W ⟨b, t, none⟩ _ _ (fun h => hne1 h.symm)).trans hS2)
          · exact Boxed.set _ (v := .int .i64 q2) ((Below.heap_setCell W ⟨b, t, none⟩ _ _ (fun h => hne2 h.symm)).trans hM2)
          · exact (Below.heap_setCell _ _ _ _ (by show wr.heap.size + 1 ≠ wr.heap.size; omega)).trans ((Below.heap_setCell W ⟨b, t, none⟩ _ _ (by show wr.heap.size + 1 ≠ b; omega)).trans hI2)
          · exact (hN2.set t v).setOther (fun b' e => by cases e; exact hne2) _
        clear hS2 hM2 hI2 hN2 hB2 hst hls hin hq2 hv hcs HA HUL HU0 HQ0 HN0 HB0 HS0 bM0 bI0 hbox hbc hbf huin hlen e3
        clear hq3
        generalize atN u t = z at *
        rcases hcs2 with ⟨h1, rfl⟩ | ⟨h1, rfl⟩
        all_goals
          gi_wp2
          all_goals first | (exfalso; omega) | exact ⟨HG.out.1 _, HG.out.2⟩
      case done =>
        rintro D ys W hD rfl ⟨⟨hS2, hM2, hI2, hN2⟩, hB2⟩ hK
        have hbc2 := hS2.cell
        gi_wp2
        refine ⟨by simp, .inl ⟨_, _, rfl, run_takeDeferred hK, ?_⟩⟩
        rw [downN_len, Nat.sub_self, ← HS0.out] at hN2
        exact ⟨_, results_tmp rfl _ _ _, a1, rfl, (newRow_own 2 w.heap.size a1 (fun _ : Unit => steadyZ zs)).putObj (s := ()) _ hN2 hK rfl, hB2.trans (belowK_b (w := w) (Nat.le_refl _) W D _ _ (by simp at hD; omega) hK rfl rfl)⟩

end Go.Proofs.Ytjaccokmficfdaa
