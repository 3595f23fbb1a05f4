/- What package toc's cutFrames comes to. -/
import Derived.Test.YtgiellpepnbpcaaDoorTocG
namespace Go.Proofs.YtgiellpepnbpcaaDoor
open Go.RowKit

def FrAns (B : Nat) (w : World) (l r : List Nat) (e : Ending) : Prop :=
  (shortS l = true → ∃ v, e = .returned (.tuple #[v, .bool true]) ∧ Frs B w v (cutF l r)) ∧ (shortS l = false → ∃ a n c, e = .returned (.tuple #[.slice a n c, .bool false]))

theorem FrAns.no {B : Nat} {w : World} {l r : List Nat} (h : shortS l = false) (a : Option Addr) (n c : Nat) : FrAns B w l r (.returned (.tuple #[.slice a n c, .bool false])) :=
  ⟨fun h2 => (by rw [h] at h2; cases h2), fun _ => ⟨a, n, c, rfl⟩⟩
theorem FrAns.yes {B : Nat} {w : World} {l r : List Nat} (h : shortS l = true) {v : Value} (hv : Frs B w v (cutF l r)) : FrAns B w l r (.returned (.tuple #[v, .bool true])) :=
  ⟨fun _ => ⟨v, rfl, hv⟩, fun h2 => by rw [h] at h2; cases h2⟩

theorem cutF_step {l r : List Nat} {j n : Nat} (hn : l.length = n) (h : j < n) : cutF (l.drop j) r = r.take (l[j]?.getD 0) :: cutF (l.drop (j + 1)) (r.drop (l[j]?.getD 0)) := by
  rw [drop_at hn h]; rfl
theorem sumN_step {l : List Nat} {j n : Nat} (hn : l.length = n) (h : j < n) : sumN (l.drop j) = l[j]?.getD 0 + sumN (l.drop (j + 1)) := by
  rw [drop_at hn h]; rfl
theorem shortS_not {l : List Nat} {j n : Nat} (hn : l.length = n) (h : j < n) (hx : 1275 < l[j]?.getD 0) : shortS l = false := by
  rw [Bool.eq_false_iff]
  intro ht
  have h2 := List.all_eq_true.1 ht (l[j]'(by omega)) (List.getElem_mem _)
  rw [List.getElem?_eq_getElem (by omega)] at hx
  have h3 : 1275 < l[j]'(by omega) := hx
  have h4 := of_decide_eq_true h2
  omega
theorem shortS_yes {l : List Nat} {n : Nat} (hn : l.length = n) (h : ∀ j, j < n → l[j]?.getD 0 ≤ 1275) : shortS l = true := by
  refine List.all_eq_true.2 fun x hx => decide_eq_true ?_
  obtain ⟨j, hj, rfl⟩ := List.mem_iff_getElem.1 hx
  have := h j (by omega)
  rw [List.getElem?_eq_getElem hj] at this
  exact this

theorem ints_at (l : List Nat) (j : Nat) : (ints l)[j]?.getD 0 = ((l[j]?.getD 0 : Nat) : Int) := by
  unfold ints
  rw [List.getElem?_map]
  cases l[j]? <;> rfl

set_option maxHeartbeats 2000000 in
theorem cutFrames_any (a : Option Addr) (n cap : Nat) (bs l : List Nat) (sa : Option Addr) (sn sc : Nat) (B : Nat) (w : World) (h : Bs w a n cap bs) (hs : NewRow 3 B w sa (ints l)) (hl : l.length = sn) (h60 : sn ≤ 63) (hsum : sumN l ≤ n) :
    Calls Tryd.prog 26 #[.slice a n cap, .slice sa sn sc] w fun e w' => FrAns w.heap.size w' l bs e ∧ Below w.heap.size w w' := by
  have HB : Hid (Bs w a n cap bs) := h
  have HS : Hid (NewRow 3 B w sa (ints l)) := hs
  have HL : Hid (l.length = sn) := hl
  have HSUM : Hid (sumN l ≤ n) := hsum
  clear h hs hl hsum
  go_enter Tryd.func26, Tryd.ntmps26
  go_wp2
  go_loopw [0, 4, 10] (fun bv v i W => ∃ (j : Nat) (a' : Option Addr) (n' c' : Nat), j ≤ sn ∧ i = .int .i64 j ∧ bv = .slice a' n' c' ∧ Hid (Below w.heap.size w W ∧ ∃ (r : List Nat) (fs : List (List Nat)), Sub a n cap bs a' n' c' r ∧ fs.length = j ∧ fs ++ cutF (l.drop j) r = cutF l bs ∧ sumN (l.drop j) ≤ n' ∧ Frs w.heap.size W v fs ∧ ∀ i, i < j → l[i]?.getD 0 ≤ 1275)) (fun _ _ i _ => sn - (intOf i).toNat)
  case atStart => exact ⟨0, a, n, cap, Nat.zero_le _, rfl, rfl, Below.refl _ _, bs, [], Sub.refl _ _ _ _, rfl, rfl, HSUM.out, Frs.nil _ _, fun i hi => absurd hi (by omega)⟩
  case round =>
    obtain ⟨j, a', n', c', hj, rfl, rfl, HR⟩ := hrel
    by_cases hlt : j < sn
    · obtain ⟨g1, r, fs, g2, g3, g4, g5, g6, g7⟩ := HR.out
      have HG1 : Hid (Below w.heap.size w wr) := g1
      have HS4 : Hid (Sub a n cap bs a' n' c' r) := g2
      have HG4 : Hid (Bs wr a' n' c' r) := g2 _ (HB.out.keep g1)
      have HF : Hid (Frs w.heap.size wr u4 fs ∧ fs.length = j ∧ ∀ i, i < j → l[i]?.getD 0 ≤ 1275) := ⟨g6, g3, g7⟩
      have hc4 := HG4.out.room
      obtain ⟨sb, es, _, _, hcs⟩ := (HS.out.below g1 (Nat.le_refl _)).cells (by rw [ints_len, HL.out]; omega)
      subst es
      have hc := hcs j (by rw [ints_len, HL.out]; exact hlt)
      rw [ints_at] at hc
      have e1 := cutF_step (r := r) HL.out hlt
      have e2 := sumN_step HL.out hlt
      have e3 : 1275 < l[j]?.getD 0 → shortS l = false := shortS_not HL.out hlt
      have hx : l[j]?.getD 0 ≤ n' := by omega
      generalize hX : l[j]?.getD 0 = x at *
      have HX : Hid (l[j]?.getD 0 = x) := hX
      have HC : Hid (fs ++ (r.take x :: cutF (l.drop (j + 1)) (r.drop x)) = cutF l bs ∧ x + sumN (l.drop (j + 1)) ≤ n') := ⟨by rw [← e1]; exact g4, by rw [← e2]; exact g5⟩
      have HE3 : Hid (1275 < x → shortS l = false) := e3
      clear g1 g2 g3 g4 g5 g6 g7 HR e1 e2 e3 hcs hX
      have bx : (0 : Int) ≤ x := by omega
      by_cases hx2 : 1275 < x
      · have b1 : ((1275 : Int) < x) = True := eq_true (by omega)
        have HNO : Hid (shortS l = false) := HE3.out hx2
        clear hx2
        go_wp2
        go_ret2
        exact ⟨.no HNO.out _ _ _, HG1.out⟩
      · have b1 : ((1275 : Int) < x) = False := eq_false (by omega)
        have hx3 : x ≤ 1275 := by omega
        obtain ⟨a2, n2, c2, hn2, hs2, hq1, hq2⟩ := HG4.out.upto x x rfl hx
        obtain ⟨a3, n3, c3, hn3, hs3, hq3, hq4⟩ := HG4.out.from_ x x rfl hx
        have HS2 : Hid (Sub a' n' c' r a2 n2 c2 (r.take x) ∧ n2 = x) := ⟨hs2, hn2⟩
        have HS3 : Hid (Sub a' n' c' r a3 n3 c3 (r.drop x) ∧ n3 = n' - x) := ⟨hs3, hn3⟩
        have bx2 : (x : Int) ≤ n' := by omega
        have bx3 : (x : Int) ≤ c' := by omega
        clear hx2 hs2 hn2 hs3 hn3
        go_wp2_with (first
          | (at_builtin; go_loud (refine wpList_copy_bytes (w := wr) a2 n2 c2 (r.take x) (HS2.out.1 _ HG4.out) rfl _ _ rfl _ rfl rfl rfl ?_; intro a4 c4' w1 hown1 hb1; have HO : Hid (w1.ownsRow wr.heap.size 5 1 (.slice a4 n2 c4') n2 (bvals (r.take x))) := hown1; have HX1 : Hid (Below wr.heap.size wr w1) := hb1; clear hown1 hb1))
          | (at_builtin; go_loud (refine wpList_push_frame (w := wr) (w1 := w1) w.heap.size u4 fs a4 n2 c4' (r.take x) HF.out.1 HX1.out (ownsRow_mono HO.out (by have := HG1.out.size; omega)) (fun k hk => (HO.out.lt k hk).1) (fun y hy => HG4.out.row.small y (List.mem_of_mem_take hy)) (by have := HS2.out.2; omega) (by have := HF.out.2.1; omega) (by have h1 := HG1.out.size; have h2 := HX1.out.size; omega) rfl _ _ rfl rfl _ rfl rfl ?_; intro g5 c5 w2 hF2 hb2; have HF2 : Hid _ := hF2; have HX2 : Hid (Below w.heap.size w1 w2) := hb2; clear hF2 hb2)))
        go_roundw
        case rel => exact ⟨j + 1, a3, n3, c3, by omega, by go_num, rfl, (HG1.out.trans (HX1.out.mono HG1.out.size)).trans HX2.out, r.drop x, fs ++ [r.take x], HS4.out.trans HS3.out.1, by rw [List.length_append, HF.out.2.1]; rfl, by rw [List.append_assoc]; exact HC.out.1, by have h1 := HC.out.2; have h2 := HS3.out.2; omega, HF2.out, fun i hi => (Nat.lt_or_ge i j).elim (HF.out.2.2 i) (fun hi2 => (by obtain rfl : i = j := (by omega); rw [HX.out]; exact hx3))⟩
        case measure => simp [intOf]; omega
    · obtain rfl : j = sn := by omega
      obtain ⟨g1, r, fs, g2, g3, g4, g5, g6, g7⟩ := HR.out
      rw [List.drop_of_length_le (by rw [HL.out]; exact Nat.le_refl _)] at g4
      have e : fs = cutF l bs := by rw [← g4]; show fs = fs ++ []; rw [List.append_nil]
      subst e
      have HF : Hid (Frs w.heap.size wr u4 (cutF l bs) ∧ Below w.heap.size w wr ∧ shortS l = true) := ⟨g6, g1, shortS_yes HL.out g7⟩
      clear g1 g2 g3 g4 g5 g6 g7 HR
      go_wp2
      go_ret2
      exact ⟨.yes HF.out.2.2 HF.out.1, HF.out.2.1⟩

end Go.Proofs.YtgiellpepnbpcaaDoor
