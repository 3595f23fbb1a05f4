/- The program's reader: symbols of a table, numbers below another. -/
import Derived.Test.YtinjkffkkmbioaaRcC
namespace Go.Proofs.Ytinjkffkkmbioaa
open Go.RowKit

/-! ### Symbols -/
theorem falls_lt : ∀ (l : List Int) (p : Int), falls p l = true → ∀ x ∈ l, x < p
  | [], _, _, _, hx => by cases hx
  | y :: l, p, h, x, hx => by
    unfold falls at h
    split at h
    · cases h
    · rcases List.mem_cons.1 hx with rfl | hx
      · omega
      · have := falls_lt l y h x hx
        omega

/-- What is known of a table that is good. -/
theorem good_cells {t : List Int} (h : goodB t = true) : 1 ≤ t.length ∧ t.length ≤ 256 ∧ t[t.length - 1]?.getD 0 = 0 ∧ ∀ i : Nat, i < t.length → 0 ≤ t[i]?.getD 0 ∧ t[i]?.getD 0 < 256 := by
  obtain ⟨h1, h2, h3, n, hn, hl⟩ := good_out h
  refine ⟨h1, h2, ?_, fun i hi => ?_⟩
  · rw [show t.length - 1 = n by omega, hn]; rfl
  · rw [List.getElem?_eq_getElem hi]
    exact ⟨falls_last_nonneg t 256 h3 ⟨n, hn, hl⟩ _ (List.getElem_mem hi), falls_lt t 256 h3 _ (List.getElem_mem hi)⟩

theorem symGo_drop (f : Int) (t : List Int) (k : Nat) (q : Int) (h : k < t.length) :
    symGo f k q (t.drop k) = if f < 256 - t[k]?.getD 0 then (k, q, t[k]?.getD 0) else symGo f (k + 1) (t[k]?.getD 0) (t.drop (k + 1)) := by
  rw [List.drop_eq_getElem_cons h, List.getElem?_eq_getElem h]; rfl

/-- A slice of whole numbers that lies somewhere. -/
def RowAt (w : World) (xo : Option Addr) (n : Nat) (zs : List Int) : Prop :=
  zs.length = n ∧ (0 < n → ∃ b off, xo = some ⟨b, off, none⟩ ∧ b < w.heap.size ∧ ∀ i, i < n → w.cell? ⟨b, off + i, none⟩ = some (.int .i64 (zs[i]?.getD 0)))

theorem RowAt.of_new {e : TypeId} {B : Nat} {w : World} {a : Option Addr} {zs : List Int} (h : NewRow e B w a zs) : RowAt w a zs.length zs :=
  ⟨rfl, fun h0 => by
    obtain ⟨b, ha, _, hlt, hc⟩ := h.cells h0
    exact ⟨b, 0, ha, hlt, fun i hi => by rw [Nat.zero_add]; exact hc i hi⟩⟩

theorem RowAt.keep {w w' : World} {xo : Option Addr} {n : Nat} {zs : List Int} (h : RowAt w xo n zs) {B : Nat} (hb : Below B w w') (hB : w.heap.size ≤ B) : RowAt w' xo n zs := by
  refine ⟨h.1, fun h0 => ?_⟩
  obtain ⟨b, off, ha, hlt, hc⟩ := h.2 h0
  exact ⟨b, off, ha, Nat.lt_of_lt_of_le hlt hb.size, fun i hi => (hb.cell (p := ⟨b, off + i, none⟩) (Nat.lt_of_lt_of_le hlt hB)).trans (hc i hi)⟩

theorem RowAt.drewN {w : World} {xo : Option Addr} {n : Nat} {zs : List Int} (h : RowAt w xo n zs) (k : Nat) : RowAt (w.drewN k) xo n zs := h

theorem good_row (zs : List Int) (n : Nat) (xo : Option Addr) (cap : Nat) (w : World) (h : RowAt w xo n zs) (hn : n ≤ 9223372036854775807) :
    Calls Try.prog 37 #[.slice xo n cap] w fun e w' => e = .returned (.bool (goodB zs)) ∧ w' = w := by
  by_cases h0 : n = 0
  · subst h0
    have e1 : zs = [] := List.eq_nil_of_length_eq_zero h.1
    have e2 : goodB zs = false := by rw [e1]; rfl
    rw [e2]
    exact good_none xo cap w
  · obtain ⟨b, off, rfl, _, hcc⟩ := h.2 (by omega)
    exact good_any zs b off n cap w h.1 (by omega) hn hcc

theorem rgood_row (zs : List Int) (n : Nat) (xo : Option Addr) (cap : Nat) (w : World) (h : RowAt w xo n zs) (hn : n ≤ 9223372036854775807) :
    Calls Try.prog 39 #[.slice xo n cap] w fun e w' => e = .returned (.bool (goodB zs)) ∧ w' = w := by
  by_cases h0 : n = 0
  · subst h0
    have e1 : zs = [] := List.eq_nil_of_length_eq_zero h.1
    have e2 : goodB zs = false := by rw [e1]; rfl
    rw [e2]
    exact rgood_none xo cap w
  · obtain ⟨b, off, rfl, _, hcc⟩ := h.2 (by omega)
    exact rgood_any zs b off n cap w h.1 (by omega) hn hcc

set_option maxHeartbeats 1600000 in
theorem symbol_any (p g : Nat) (bs : List Nat) (s : St) (xo : Option Addr) (n cap : Nat) (zs : List Int) (w : World) (h : Rd p g bs s w) (hi : Inv s) (hc : s.cnt ≤ 1000000000000000) (ht : RowAt w xo n zs) (hn : n ≤ 9223372036854775807) :
    Calls Try.prog 28 #[.pointer (some ⟨p, 0, none⟩), .slice xo n cap] w fun e w' => e = .returned (.int .i64 (symS bs zs s).1) ∧ Rd p g bs (symS bs zs s).2 w' ∧ But p w w' := by
  have HT : Hid (RowAt w xo n zs) := ht
  have HH : Hid (Rd p g bs s w) := h
  cases hg : goodB zs
  · have e : symS bs zs s = (0, s) := by rw [symS, hg]; rfl
    rw [e]
    clear e h ht
    have HG : Hid (goodB zs = false) := hg
    clear hg
    go_enter Try.func28, Try.ntmps28
    go_wp2_with (go_at_call 37; refine (good_row zs n xo cap _ HT.out hn).mono ?_; rw [HG.out]; rintro e w' ⟨rfl, rfl⟩)
    go_ret
    exact ⟨rfl, HH.out, But.refl _ _⟩
  · obtain ⟨g1, g2, g3, g4⟩ := good_cells hg
    have hlen := ht.1
    rw [hlen] at g1 g2 g3 g4
    obtain ⟨b, off, rfl, hlt, hcc⟩ := ht.2 (by omega)
    have hk := chooseS_lt (s := s) (ft := 256) (by decide)
    obtain ⟨a1, a2, a3, a4, a5, a6⟩ := sym_out hg hk
    have HE : Hid (∃ R, symGo (chooseS s 256 : Nat) 0 256 zs = R) := ⟨_, rfl⟩
    obtain ⟨R, hR⟩ := HE.out
    have e : symS bs zs s = (R.1, takeS bs s (256 - R.2.1).toNat (256 - R.2.2).toNat 256) := by rw [symS, hg, if_pos rfl, hR]
    rw [e]
    rw [hR, hlen] at a1
    rw [hR] at a2 a3 a4 a5 a6
    have HG : Hid (goodB zs = true) := hg
    have HR : Hid (symGo (chooseS s 256 : Nat) 0 256 (zs.drop 0) = R) := hR
    have HC : Hid (∀ i, i < n → w.cell? ⟨b, off + i, none⟩ = some (.int .i64 (zs[i]?.getD 0))) := hcc
    have HL : Hid (zs.length = n) := hlen
    have H3 : Hid (zs[n - 1]?.getD 0 = 0) := g3
    have H4 : Hid (∀ i : Nat, i < n → 0 ≤ zs[i]?.getD 0 ∧ zs[i]?.getD 0 < 256) := g4
    clear hg hR hcc hlen g3 g4 e HE ht h
    go_enter Try.func28, Try.ntmps28
    go_wp2_with (first
      | (go_at_call 37; refine (good_row zs n _ cap _ HT.out hn).mono ?_; rw [HG.out]; rintro e w' ⟨rfl, rfl⟩)
      | (go_at_call 51; refine (choose_any p g bs s _ 256 rfl _ HH.out hi (by decide) (by decide)).mono ?_; rintro e w' ⟨rfl, d, rfl⟩))
    generalize hF : chooseS s 256 = F at *
    have HF : Hid (chooseS s 256 = F) := hF
    clear hF
    go_loop [6, 7] (fun i q => ∃ k : Nat, ∃ z : Int, k < n ∧ i = .int .i64 k ∧ q = .int .i64 (256 - z) ∧ symGo F k z (zs.drop k) = R) (fun i _ => n - (intOf i).toNat)
    case atStart => exact ⟨0, 256, by omega, rfl, rfl, HR.out⟩
    case round =>
      obtain ⟨k, z, hkn, rfl, rfl, hsym⟩ := hrel
      have hck := HC.out k hkn
      have hx := H4.out k hkn
      have HD := symGo_drop F zs k z (by rw [HL.out]; exact hkn)
      have H3k : k = n - 1 → zs[k]?.getD 0 = 0 := fun h => by rw [h]; exact H3.out
      rw [hsym] at HD
      clear hsym
      generalize zs[k]?.getD 0 = x at *
      by_cases hlt2 : (F : Int) < 256 - x
      · have HRR : Hid (R = (k, z, x)) := by rw [if_pos hlt2] at HD; exact HD
        clear HD H3k
        rw [HRR.out] at a1 a2 a3 a4 a5 a6
        simp only at a1 a2 a3 a4 a5 a6
        have b1 : (256 - z).toNat ≤ chooseS s 256 := by rw [HF.out]; omega
        have b2 : chooseS s 256 < (256 - x).toNat := by rw [HF.out]; omega
        go_wp2_with (go_at_call 52; refine (take_any p g bs s _ _ _ (256 - z).toNat (256 - x).toNat 256 ?_ ?_ rfl _ (HH.out.drewN _) hi (by decide) (by decide) b1 b2 (by omega) hc).mono ?_; (· omega); (· omega); rintro e w' ⟨rfl, hw1, hw2⟩)
        go_ret
        rw [HRR.out]
        exact ⟨rfl, hw1, ((But.refl p _).drewN _).trans hw2⟩
      · have HRR : Hid (R = symGo F (k + 1) x (zs.drop (k + 1))) := by rw [if_neg hlt2] at HD; exact HD
        have hk1 : k + 1 < n := by
          rcases Nat.lt_or_ge (k + 1) n with h | h
          · exact h
          · have := H3k (by omega); omega
        clear HD H3k
        go_wp2
        go_round
        case rel => exact ⟨k + 1, x, hk1, by go_num, rfl, HRR.out.symm⟩
        case measure => simp [intOf]; omega

/-! ### Numbers below another -/
theorem len_int_any (x : Nat) (y : Int) (hy : y = x) (w : World) (h1 : x ≤ 9223372036854775807) :
    Calls Try.prog 30 #[.int .u64 y] w fun e w' => e = .returned (.int .i64 (lenN x)) ∧ w' = w := by
  subst hy
  exact len_nat_any x w h1

theorem onS_cnt3 (b : List Nat) (s : St) : (onS b 3 s).cnt ≤ s.cnt + 24 := (onS_cnt b 3 s).2
theorem takeS_cnt (b : List Nat) (s : St) (fl fh ft : Nat) : (takeS b s fl fh ft).cnt ≤ s.cnt + 24 := onS_cnt3 b (narrowS s fl fh ft)

theorem uintBig_eq (b : List Nat) (ft : Nat) (s : St) : uintBig b ft s =
    if ft ≤ chooseS s (partN ft) * 2 ^ shiftN ft + (bitsS b (shiftN ft : Nat) (takeS b s (chooseS s (partN ft)) (chooseS s (partN ft) + 1) (partN ft))).1
    then (ft - 1, { (bitsS b (shiftN ft : Nat) (takeS b s (chooseS s (partN ft)) (chooseS s (partN ft) + 1) (partN ft))).2 with bad := true })
    else (chooseS s (partN ft) * 2 ^ shiftN ft + (bitsS b (shiftN ft : Nat) (takeS b s (chooseS s (partN ft)) (chooseS s (partN ft) + 1) (partN ft))).1,
      (bitsS b (shiftN ft : Nat) (takeS b s (chooseS s (partN ft)) (chooseS s (partN ft) + 1) (partN ft))).2) := rfl

end Go.Proofs.Ytinjkffkkmbioaa
