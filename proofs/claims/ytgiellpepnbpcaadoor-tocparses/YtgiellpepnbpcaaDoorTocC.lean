/- Whether a packet may be: what package toc's Good, alike, codeOf and headOf come to. -/
import Derived.Test.YtgiellpepnbpcaaDoorTocB
namespace Go.Proofs.YtgiellpepnbpcaaDoor
open Go.RowKit

theorem bcell {W w1 : World} (hb : Below W.heap.size W w1) : (∀ b o, b < W.heap.size → w1.cell? ⟨b, o, none⟩ = W.cell? ⟨b, o, none⟩) ∧ (∀ b o, b < W.heap.size → w1.frozen? ⟨b, o, none⟩ = W.frozen? ⟨b, o, none⟩) :=
  ⟨fun b o h => hb.cell (p := ⟨b, o, none⟩) h, fun b o h => hb.frozen (p := ⟨b, o, none⟩) h⟩

theorem boxed {w w1 : World} {o : Obj} (hb : Below (w.alloc o).heap.size (w.alloc o) w1) : Below w.heap.size w w1 := ((Below.refl _ _).alloc (Nat.le_refl _) o).trans (hb.mono (by simp))

/-- A frame of them, as its slice lies in the list. -/
theorem FramesAt.elem {w : World} {B : Nat} {a : Option Addr} {fs : List (List Nat)} (h : FramesAt w B a fs) {i : Nat} (hi : i < fs.length) :
    ∃ b off fa fcap, a = some ⟨b, off, none⟩ ∧ b < w.heap.size ∧ w.cell? ⟨b, off + i, none⟩ = some (.slice fa (fs[i]?.getD []).length fcap) ∧ (fa = none → (fs[i]?.getD []).length = 0 ∧ fcap = 0) ∧ (fs[i]?.getD []).length ≤ fcap ∧ ByteRow w B fa (fs[i]?.getD []) := by
  obtain ⟨b, off, e, _, h2, h3⟩ := h.at_ (by omega)
  obtain ⟨fa, fcap, g1, g2, g3, g4⟩ := h3 i hi
  exact ⟨b, off, fa, fcap, e, h2, g1, g2, g3, g4⟩

theorem alikeTo_now {fs : List (List Nat)} {i : Nat} (hi : i < fs.length) : alikeTo fs (i + 1) = (alikeTo fs i && decide ((fs[i]?.getD []).length = (fs[0]?.getD []).length)) := by
  rw [alikeTo_snoc (f := fs[i]?.getD []) (by rw [List.getElem?_eq_getElem hi]; rfl)]

theorem alikeTo_mono {fs : List (List Nat)} {i : Nat} (hi : i < fs.length) (h : ¬ (fs[i]?.getD []).length = (fs[0]?.getD []).length) : alikeN fs = false := by
  rw [← alikeTo_all, Bool.eq_false_iff]
  intro ht
  have := List.all_eq_true.1 ht (fs[i]'hi) (by rw [List.take_length]; exact List.getElem_mem _)
  rw [List.getElem?_eq_getElem hi] at h
  exact h (by simpa using this)

theorem alike_any (a : Option Addr) (n cap : Nat) (fs : List (List Nat)) (B : Nat) (w : World) (h : FramesAt w B a fs) (hn : fs.length = n) (hs : n ≤ 140737488351232) :
    Calls Tryd.prog 27 #[.slice a n cap] w fun e w' => e = .returned (.bool (alikeN fs)) ∧ Below w.heap.size w w' := by
  have HF : Hid (FramesAt w B a fs) := h
  have HL : Hid (fs.length = n) := hn
  clear h hn
  go_enter Tryd.func27, Tryd.ntmps27
  go_wp2
  go_loopw [7] (fun i W => Below w.heap.size w W ∧ ∃ m : Nat, m ≤ n ∧ i = .int .i64 m ∧ Hid (alikeTo fs m = true)) (fun i _ => n - (intOf i).toNat)
  case atStart => exact ⟨Below.refl _ _, 0, Nat.zero_le _, rfl, rfl⟩
  case round =>
    obtain ⟨hb, m, hm, rfl, HA⟩ := hrel
    by_cases hlt : m < n
    · have hk := HF.out.keep hb
      obtain ⟨b, off, fa, fcap, rfl, _, hc, _⟩ := hk.elem (i := m) (by rw [HL.out]; exact hlt)
      obtain ⟨b', off', ga, gcap, e', _, hc0, _⟩ := hk.elem (i := 0) (by rw [HL.out]; omega)
      cases e'
      rw [Nat.add_zero] at hc0
      clear hk
      have HN := alikeTo_now (fs := fs) (i := m) (by rw [HL.out]; exact hlt)
      have HB := alikeTo_mono (fs := fs) (i := m) (by rw [HL.out]; exact hlt)
      generalize (fs[m]?.getD []).length = x at *
      generalize (fs[0]?.getD []).length = y at *
      have HN' : Hid (alikeTo fs (m + 1) = (alikeTo fs m && decide (x = y))) := HN
      have HB' : Hid (¬ x = y → alikeN fs = false) := HB
      clear HN HB
      by_cases hxy : x = y
      · subst hxy
        go_wp2
        go_roundw
        case rel => exact ⟨hb, m + 1, by omega, by go_num, by show _ = _; rw [HN'.out, HA.out]; simp⟩
        case measure => simp [intOf]; omega
      · have hne : ((x : Int) != (y : Int)) = true := bne_iff_ne.2 (by omega)
        go_wp2
        go_ret
        exact ⟨by rw [HB'.out hxy]; rfl, hb⟩
    · obtain rfl : m = n := by omega
      have HE : Hid (alikeN fs = true) := by show _ = _; rw [← alikeTo_all, HL.out]; exact HA.out
      go_wp2
      go_ret
      exact ⟨by rw [HE.out]; rfl, hb⟩

/-- May it be? (Numbers as they come in.) -/
structure goodI (c ch pad : Int) (fs : List (List Nat)) : Prop where
  c0 : 0 ≤ c
  c1 : c ≤ 11
  ch0 : 1 ≤ ch
  ch1 : ch ≤ 2
  pad0 : 0 ≤ pad
  pad1 : pad ≤ 1000
  some_ : 1 ≤ fs.length
  time : fs.length * msN c.toNat ≤ 120
  short : ∀ f ∈ fs, f.length ≤ 1275

theorem short_not {fs : List (List Nat)} {i : Nat} (hi : i < fs.length) (h : 1275 < (fs[i]?.getD []).length) : ¬ ∀ f ∈ fs, f.length ≤ 1275 := fun hall => by
  rw [List.getElem?_eq_getElem hi] at h
  have h2 := hall (fs[i]'hi) (List.getElem_mem _)
  have h3 : 1275 < (fs[i]'hi).length := h
  omega

theorem short_all {fs : List (List Nat)} {n : Nat} (hn : fs.length = n) (h : ∀ j, j < n → (fs[j]?.getD []).length ≤ 1275) : ∀ f ∈ fs, f.length ≤ 1275 := fun f hf => by
  obtain ⟨j, hj, rfl⟩ := List.mem_iff_getElem.1 hf
  have := h j (by omega)
  rw [List.getElem?_eq_getElem hj] at this
  exact this

/-- The answer is just that of the asked. -/
def Says (p : Prop) (e : Ending) : Prop := ∃ b : Bool, e = .returned (.bool b) ∧ (b = true ↔ p)
theorem Says.yes {p : Prop} (h : p) : Says p (.returned (.bool true)) := ⟨true, rfl, by simp [h]⟩
theorem Says.no {p : Prop} (h : ¬ p) : Says p (.returned (.bool false)) := ⟨false, rfl, by simp [h]⟩

set_option maxHeartbeats 1000000 in
theorem good_any (c ch pad : Int) (a : Option Addr) (n cap : Nat) (fs : List (List Nat)) (B : Nat) (w : World) (hC : CfgAt w) (h : FramesAt w B a fs) (hn : fs.length = n) (hs : n ≤ 9223372036854775807) :
    Calls Tryd.prog 14 #[.agg #[.int .i64 c, .int .i64 ch, .slice a n cap, .int .i64 pad]] w fun e w' => Says (goodI c ch pad fs) e ∧ Below w.heap.size w w' := by
  have HF : Hid (FramesAt w B a fs) := h
  have HL : Hid (fs.length = n) := hn
  have HC : Hid (CfgAt w) := hC
  clear h hn hC
  by_cases hc : c < 0 ∨ 11 < c
  · have HN : Hid (¬ goodI c ch pad fs) := fun h => by have := h.c0; have := h.c1; omega
    have HB : Hid (c < 0 ∨ 11 < c) := hc
    clear hc
    go_enter Tryd.func14, Tryd.ntmps14
    go_wp2_with (go_at_call 11; go_loud (refine (of_bad c HB.out _).mono ?_; rintro e w1 ⟨rfl, hb1⟩; have hB := boxed hb1; obtain ⟨q1, q2⟩ := bcell hb1))
    go_ret
    exact ⟨.no HN.out, hB.alloc hB.size _⟩
  · obtain ⟨k, rfl⟩ := Int.eq_ofNat_of_zero_le (show 0 ≤ c by omega)
    have HK : Hid (k < 12) := by show _ < _; omega
    by_cases hq : ch < 1 ∨ 2 < ch ∨ pad < 0 ∨ 1000 < pad
    · have HN : Hid (¬ goodI k ch pad fs) := fun h => by have := h.ch0; have := h.ch1; have := h.pad0; have := h.pad1; omega
      clear hc
      rcases hq with hq | hq | hq | hq
      all_goals
        go_enter Tryd.func14, Tryd.ntmps14
        go_wp2_with (go_at_call 11; go_loud (refine (of_good k HK.out _ (HC.out.keep ((Below.refl _ _).alloc (Nat.le_refl _) _))).mono ?_; rintro e w1 ⟨rfl, hb1⟩; have hB := boxed hb1; obtain ⟨q1, q2⟩ := bcell hb1; have hz : w.heap.size < w1.heap.size := (by have := hb1.size; simp at this; omega)))

        all_goals
          go_ret
          exact ⟨.no HN.out, hB.alloc hB.size _⟩
    · obtain ⟨m1, rfl⟩ := Int.eq_ofNat_of_zero_le (show 0 ≤ pad by omega)
      have hq1 : 1 ≤ ch := by omega
      have hq2 : ch ≤ 2 := by omega
      have hq3 : m1 ≤ 1000 := by omega
      clear hq hc
      by_cases hn0 : n = 0
      · subst hn0
        have HN : Hid (¬ goodI k ch m1 fs) := fun h => by have h1 := h.some_; have h2 := HL.out; omega
        go_enter Tryd.func14, Tryd.ntmps14
        go_wp2_with (go_at_call 11; go_loud (refine (of_good k HK.out _ (HC.out.keep ((Below.refl _ _).alloc (Nat.le_refl _) _))).mono ?_; rintro e w1 ⟨rfl, hb1⟩; have hB := boxed hb1; obtain ⟨q1, q2⟩ := bcell hb1; have hz : w.heap.size < w1.heap.size := (by have := hb1.size; simp at this; omega)))
        go_ret
        exact ⟨.no HN.out, hB.alloc hB.size _⟩
      · have hn1 : 1 ≤ n := by omega
        have HT : Hid (decide (120 < n * msN k) = true → ¬ goodI k ch m1 fs) := fun ht h => by
          have h1 := h.time
          have h2 := HL.out
          have h3 : ((k : Int)).toNat = k := rfl
          rw [h2, h3] at h1
          exact absurd (of_decide_eq_true ht) (by omega)
        have HG : Hid (decide (120 < n * msN k) = false → (∀ j, j < n → (fs[j]?.getD []).length ≤ 1275) → goodI k ch m1 fs) := fun ht h =>
          ⟨by omega, by have := HK.out; omega, hq1, hq2, by omega, by omega, by have := HL.out; omega, by
            have h1 := of_decide_eq_false ht
            have h2 := HL.out
            have h3 : ((k : Int)).toNat = k := rfl
            rw [h2, h3]
            omega, short_all HL.out h⟩
        cases hD : decide (120 < n * msN k)
        · have HN : Hid _ := HG.out hD
          clear HT
          have HD : Hid (decide (120 < n * msN k) = _) := hD
          clear hD
          go_enter Tryd.func14, Tryd.ntmps14
          go_wp2_with (first
            | (go_at_call 11; go_loud (refine (of_good k HK.out _ (HC.out.keep ((Below.refl _ _).alloc (Nat.le_refl _) _))).mono ?_; rintro e w1 ⟨rfl, hb1⟩; have hB := boxed hb1; obtain ⟨q1, q2⟩ := bcell hb1; have hz : w.heap.size < w1.heap.size := (by have := hb1.size; simp at this; omega)))
            | (go_at_call 23; go_loud (refine (tooLong_any n k _ _ _ (by omega)).mono ?_; rw [HD.out]; rintro e w2 ⟨rfl, hb2⟩; replace hB := (hB.alloc hB.size _).trans (hb2.mono (by simp; omega)); obtain ⟨q3, q4⟩ := bcell hb2; have hz2 : w1.heap.size < w2.heap.size := (by have := hb2.size; simp at this; omega))))
          go_loopw [49] (fun i W => Below w.heap.size w W ∧ ∃ m : Nat, m ≤ n ∧ i = .int .i64 m ∧ Hid (∀ j, j < m → (fs[j]?.getD []).length ≤ 1275)) (fun i _ => n - (intOf i).toNat)
          case atStart => exact ⟨hB, 0, Nat.zero_le _, rfl, fun j hj => absurd hj (by omega)⟩
          case round =>
            clear hB q1 q2 q3 q4 hz hz2
            obtain ⟨hb, m, hm, rfl, HA⟩ := hrel
            by_cases hlt : m < n
            · have hk := HF.out.keep hb
              obtain ⟨b, off, fa, fcap, rfl, _, hc, _⟩ := hk.elem (i := m) (by rw [HL.out]; exact hlt)
              clear hk
              have HS : Hid (1275 < (fs[m]?.getD []).length → ¬ goodI k ch m1 fs) := fun h g => short_not (by rw [HL.out]; exact hlt) h g.short
              generalize hx : (fs[m]?.getD []).length = x at *
              have HX : Hid ((fs[m]?.getD []).length = x) := hx
              clear hx
              by_cases hxs : 1275 < x
              · go_wp2
                go_ret
                exact ⟨.no (HS.out hxs), hb⟩
              · go_wp2
                go_roundw
                case rel => exact ⟨hb, m + 1, by omega, by go_num, fun j hj => (Nat.lt_or_ge j m).elim (HA.out j) (fun hj2 => (by obtain rfl : j = m := (by omega); rw [HX.out]; omega))⟩
                case measure => simp [intOf]; omega
            · obtain rfl : m = n := by omega
              go_wp2
              go_ret
              exact ⟨.yes (HN.out HA.out), hb⟩
        · have HN : Hid _ := HT.out hD
          clear HT HG
          have HD : Hid (decide (120 < n * msN k) = _) := hD
          clear hD
          go_enter Tryd.func14, Tryd.ntmps14
          go_wp2_with (first
            | (go_at_call 11; go_loud (refine (of_good k HK.out _ (HC.out.keep ((Below.refl _ _).alloc (Nat.le_refl _) _))).mono ?_; rintro e w1 ⟨rfl, hb1⟩; have hB := boxed hb1; obtain ⟨q1, q2⟩ := bcell hb1; have hz : w.heap.size < w1.heap.size := (by have := hb1.size; simp at this; omega)))
            | (go_at_call 23; go_loud (refine (tooLong_any n k _ _ _ (by omega)).mono ?_; rw [HD.out]; rintro e w2 ⟨rfl, hb2⟩; replace hB := (hB.alloc hB.size _).trans (hb2.mono (by simp; omega)); obtain ⟨q3, q4⟩ := bcell hb2; have hz2 : w1.heap.size < w2.heap.size := (by have := hb2.size; simp at this; omega))))
          go_ret
          exact ⟨.no HN.out, hB⟩

end Go.Proofs.YtgiellpepnbpcaaDoor
