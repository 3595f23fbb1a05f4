/- What package toc's sizesOf and cutFrames come to. -/
import Derived.Test.YtgiellpepnbpcaaDoorTocF
namespace Go.Proofs.YtgiellpepnbpcaaDoor
open Go.RowKit

theorem CutLen.elim_no {a0 : Option Addr} {n0 c0 : Nat} {bs : List Nat} {e : Ending} (h : CutLen a0 n0 c0 bs e) (ht : take2 bs = none) : e = .returned (.tuple #[.int .i64 0, .slice none 0 0, .bool false]) := by
  unfold CutLen at h; rw [ht] at h; exact h
theorem CutLen.elim {a0 : Option Addr} {n0 c0 : Nat} {bs r : List Nat} {x : Nat} {e : Ending} (h : CutLen a0 n0 c0 bs e) (ht : take2 bs = some (x, r)) : ∃ a n c, e = .returned (.tuple #[.int .i64 (x : Nat), .slice a n c, .bool true]) ∧ Sub a0 n0 c0 bs a n c r := by
  unfold CutLen at h; rw [ht] at h; exact h

def ints (l : List Nat) : List Int := l.map fun (x : Nat) => (x : Int)
theorem ints_len (l : List Nat) : (ints l).length = l.length := List.length_map _

/-- A list of whole numbers of the call's own. -/
abbrev Oi (B : Nat) (w : World) (v : Value) (zs : List Int) : Prop := w.ownsRow B 3 1 v zs.length (zs.map (Value.int .i64))

def SizeAns (a0 : Option Addr) (n0 c0 : Nat) (B : Nat) (w : World) (m : Nat) (t : Bool) (bs : List Nat) (e : Ending) : Prop :=
  match sizes2 m t bs with
  | none => ∃ a1 n1 c1 a2 n2 c2, e = .returned (.tuple #[.slice a1 n1 c1, .slice a2 n2 c2, .bool false])
  | some (l, r) => ∃ a1 n1 c1 a2 n2 c2, e = .returned (.tuple #[.slice a1 n1 c1, .slice a2 n2 c2, .bool true]) ∧ Oi B w (.slice a1 n1 c1) (ints l) ∧ n1 = l.length ∧ Sub a0 n0 c0 bs a2 n2 c2 r

theorem SizeAns.no {a0 : Option Addr} {n0 c0 : Nat} {B : Nat} {w : World} {m : Nat} {t : Bool} {bs : List Nat} (h : sizes2 m t bs = none) (a1 : Option Addr) (n1 c1 : Nat) (a2 : Option Addr) (n2 c2 : Nat) : SizeAns a0 n0 c0 B w m t bs (.returned (.tuple #[.slice a1 n1 c1, .slice a2 n2 c2, .bool false])) := by
  unfold SizeAns; rw [h]; exact ⟨a1, n1, c1, a2, n2, c2, rfl⟩
theorem SizeAns.yes {a0 : Option Addr} {n0 c0 : Nat} {B : Nat} {w : World} {m : Nat} {t : Bool} {bs l r : List Nat} (h : sizes2 m t bs = some (l, r)) {a1 : Option Addr} {n1 c1 : Nat} {a2 : Option Addr} {n2 c2 : Nat} (h1 : Oi B w (.slice a1 n1 c1) (ints l)) (h2 : n1 = l.length) (h3 : Sub a0 n0 c0 bs a2 n2 c2 r) : SizeAns a0 n0 c0 B w m t bs (.returned (.tuple #[.slice a1 n1 c1, .slice a2 n2 c2, .bool true])) := by
  unfold SizeAns; rw [h]; exact ⟨a1, n1, c1, a2, n2, c2, rfl, h1, h2, h3⟩

theorem ints_rep (j k : Nat) : ints (List.replicate (j + 1) k) = ints (List.replicate j k) ++ [(k : Int)] := by
  unfold ints
  rw [List.replicate_succ', List.map_append]; rfl

set_option maxHeartbeats 1000000 in
theorem sizesOf_even (m : Nat) (p : Bool) (a : Option Addr) (n cap : Nat) (bs : List Nat) (w : World) (h : Bs w a n cap bs) (h1 : 1 ≤ m) (h2 : m ≤ 60) :
    Calls Tryd.prog 25 #[.agg #[.int .i64 (m : Nat), .bool false, .bool p], .slice a n cap] w fun e w' => SizeAns a n cap w.heap.size w' m false bs e ∧ Below w.heap.size w w' := by
  have HB : Hid (Bs w a n cap bs) := h
  have hsz := h.size
  have HL : Hid (bs.length = n) := h.len
  clear h
  have hm0 : ¬ (m : Int) = 0 := by omega
  have HQ : Hid ((n : Int) / (m : Int) = ((n / m : Nat) : Int)) := rfl
  have hq : 0 ≤ (n : Int) / (m : Int) ∧ (n : Int) / (m : Int) ≤ n := ⟨Int.ediv_nonneg (by omega) (by omega), Int.ediv_le_self _ (by omega)⟩
  go_enter Tryd.func25, Tryd.ntmps25
  go_wp2
  go_loopw [4, 14] (fun v i W => W.cell? ⟨w.heap.size, 0, none⟩ = some (.int .i64 m) ∧ w.heap.size < W.heap.size ∧ ∃ j : Nat, j ≤ m ∧ i = .int .i64 j ∧ Hid (Below w.heap.size w W ∧ W.ownsRow (w.heap.size + 1) 3 1 v j ((ints (List.replicate j (n / m))).map (Value.int .i64)))) (fun _ i _ => m - (intOf i).toNat)
  case atStart => exact ⟨by rw [World.cell?_alloc_new]; rfl, by simp, 0, Nat.zero_le _, rfl, (Below.refl _ _).alloc (Nat.le_refl _) _, World.ownsRow_nil _ _ _ _⟩
  case round =>
    obtain ⟨q0, hlt0, j, hj, rfl, HR⟩ := hrel
    by_cases hlt : j < m
    · go_wp2_with (at_builtin; go_loud (refine wpList_append_one 55 3 Tryd.underlying55 info_int (w.heap.size + 1) _ j (ints (List.replicate j (n / m))) _ HR.out.2 (by omega) (by omega) rfl _ _ rfl rfl rfl ?_; rw [HQ.out, ← ints_rep]; intro v' w1 hown1 hb1; have HO : Hid _ := hown1; have HX : Hid (Below (w.heap.size + 1) wr w1) := hb1; clear hown1 hb1))
      go_roundw
      case rel => exact ⟨(HX.out.cell (p := ⟨w.heap.size, 0, none⟩) (by simp)).trans q0, by have := HX.out.size; omega, j + 1, by omega, by go_num, HR.out.1.trans (HX.out.mono (by omega)), HO.out⟩
      case measure => simp [intOf]; omega
    · obtain rfl : j = m := by omega
      have HV : Hid (∃ v0 : Value, v0 = u4) := ⟨_, rfl⟩
      obtain ⟨a1, c1, hv⟩ := ownsRow_form HR.out.2
      subst hv
      have HO : Hid (Oi w.heap.size wr (.slice a1 j c1) (ints (List.replicate j (n / j)))) := by
        have := ownsRow_mono HR.out.2 (B' := w.heap.size) (by omega)
        show World.ownsRow _ _ _ _ _ _ _
        rw [ints_len, List.length_replicate]
        exact this
      by_cases hd : n % j = 0
      · have HS : Hid (sizes2 j false bs = some (List.replicate j (n / j), bs)) := by
          show sizes2 j false bs = _
          unfold sizes2
          rw [if_neg (by simp), HL.out, if_pos hd]
        have b1 : ((n : Int) % (j : Int) == 0) = true := beq_iff_eq.2 (by omega)
        clear hd
        go_wp2
        go_quiet (fail)
        go_wp2
        go_ret3
        exact ⟨.yes HS.out (ownsRow_of_block HO.out fun _ _ => rfl) (by rw [List.length_replicate]) (Sub.refl _ _ _ _), Below.drewN HR.out.1 _⟩
      · have HS : Hid (sizes2 j false bs = none) := by
          show sizes2 j false bs = _
          unfold sizes2
          rw [if_neg (by simp), HL.out, if_neg hd]
        have b1 : ((n : Int) % (j : Int) == 0) = false := beq_eq_false_iff_ne.2 (by omega)
        clear hd
        go_wp2
        go_quiet (fail)
        go_wp2
        go_ret3
        exact ⟨.no HS.out _ _ _ _ _ _, Below.drewN HR.out.1 _⟩

theorem lens2_step {k : Nat} {r r1 : List Nat} {x : Nat} (h : take2 r = some (x, r1)) : lens2 (k + 1) r = match lens2 k r1 with | none => none | some (l, r'') => some (x :: l, r'') := by
  show (match take2 r with | none => none | some (n, r') => match lens2 k r' with | none => none | some (l, r'') => some (n :: l, r'')) = _
  rw [h]
theorem lens2_stop {k : Nat} {r : List Nat} (h : take2 r = none) : lens2 (k + 1) r = none := by
  show (match take2 r with | none => none | some (n, r') => match lens2 k r' with | none => none | some (l, r'') => some (n :: l, r'')) = _
  rw [h]

/-- In the midst of it: the lengths l are cut, r is left. -/
def MidLens (k : Nat) (bs l r : List Nat) : Prop := l.length ≤ k ∧ lens2 k bs = match lens2 (k - l.length) r with | none => none | some (l2, r'') => some (l ++ l2, r'')

theorem MidLens.start (k : Nat) (bs : List Nat) : MidLens k bs [] bs := by
  refine ⟨Nat.zero_le _, ?_⟩
  show _ = match lens2 k bs with | none => none | some (l2, r'') => some ([] ++ l2, r'')
  cases lens2 k bs with
  | none => rfl
  | some q => rfl
theorem MidLens.step {k : Nat} {bs l r r1 : List Nat} {x : Nat} (h : MidLens k bs l r) (hl : l.length < k) (ht : take2 r = some (x, r1)) : MidLens k bs (l ++ [x]) r1 := by
  obtain ⟨_, h2⟩ := h
  refine ⟨by simp; omega, ?_⟩
  rw [h2, show k - l.length = (k - (l ++ [x]).length) + 1 by simp; omega, lens2_step ht]
  cases lens2 (k - (l ++ [x]).length) r1 with
  | none => rfl
  | some q => obtain ⟨l2, r2⟩ := q; simp
theorem MidLens.stop {k : Nat} {bs l r : List Nat} (h : MidLens k bs l r) (hl : l.length < k) (ht : take2 r = none) : lens2 k bs = none := by
  obtain ⟨_, h2⟩ := h
  rw [h2, show k - l.length = (k - l.length - 1) + 1 by omega, lens2_stop ht]
theorem MidLens.all {k : Nat} {bs l r : List Nat} (h : MidLens k bs l r) (hl : l.length = k) : lens2 k bs = some (l, r) := by
  obtain ⟨_, h2⟩ := h
  rw [h2, hl, Nat.sub_self]
  show some (l ++ [], r) = _
  rw [List.append_nil]

theorem sumN_snoc : ∀ (l : List Nat) (x : Nat), sumN (l ++ [x]) = sumN l + x
  | [], x => by show x + 0 = 0 + x; omega
  | y :: l, x => by show y + sumN (l ++ [x]) = (y + sumN l) + x; rw [sumN_snoc l x]; omega

theorem ints_snoc (l : List Nat) (x : Nat) : ints (l ++ [x]) = ints l ++ [(x : Int)] := by unfold ints; rw [List.map_append]; rfl

theorem take2_small {r r1 : List Nat} {x : Nat} (hb : ∀ y ∈ r, y < 256) (h : take2 r = some (x, r1)) : x ≤ 1275 := by
  cases r with
  | nil => cases h
  | cons y r =>
    have hy := hb y (by simp)
    by_cases hx : y < 252
    · have e : take2 (y :: r) = some (y, r) := if_pos hx
      rw [e] at h; cases h
      omega
    · cases r with
      | nil =>
        have e : take2 [y] = none := if_neg hx
        rw [e] at h; cases h
      | cons z r =>
        have hz := hb z (by simp)
        have e : take2 (y :: z :: r) = some (y + 4 * z, r) := if_neg hx
        rw [e] at h; cases h
        omega

set_option maxHeartbeats 2000000 in
theorem sizesOf_told (m : Nat) (p : Bool) (a : Option Addr) (n cap : Nat) (bs : List Nat) (w : World) (h : Bs w a n cap bs) (h1 : 1 ≤ m) (h2 : m ≤ 60) :
    Calls Tryd.prog 25 #[.agg #[.int .i64 (m : Nat), .bool true, .bool p], .slice a n cap] w fun e w' => SizeAns a n cap w.heap.size w' m true bs e ∧ Below w.heap.size w w' := by
  have HB : Hid (Bs w a n cap bs) := h
  clear h
  have HS : Hid (∀ q, lens2 (m - 1) bs = q → sizes2 m true bs = match q with | none => none | some (l, r') => if sumN l ≤ r'.length then some (l ++ [r'.length - sumN l], r') else none) := fun q hq => by
    unfold sizes2
    rw [if_pos rfl, hq]
    cases q <;> rfl
  have b0 : (0 : Int) ≤ (m : Int) - 1 := by omega
  go_enter Tryd.func25, Tryd.ntmps25
  go_wp2
  go_loopw [1, 4, 7, 36] (fun bv v t i W => w.heap.size < W.heap.size ∧ ∃ (j T : Nat) (a' : Option Addr) (n' c' : Nat), j + 1 ≤ m ∧ i = .int .i64 j ∧ t = .int .i64 T ∧ T ≤ 1275 * j ∧ bv = .slice a' n' c' ∧ n' ≤ 140737488351232 ∧ Hid (∃ l r : List Nat, l.length = j ∧ sumN l = T ∧ MidLens (m - 1) bs l r ∧ Sub a n cap bs a' n' c' r ∧ Below w.heap.size w W ∧ W.ownsRow (w.heap.size + 1) 3 1 v j ((ints l).map (Value.int .i64)))) (fun _ _ _ i _ => m - (intOf i).toNat)
  case atStart => exact ⟨by simp, 0, 0, a, n, cap, by omega, rfl, rfl, by omega, rfl, HB.out.size, [], bs, rfl, rfl, MidLens.start _ _, Sub.refl _ _ _ _, (Below.refl _ _).alloc (Nat.le_refl _) _, World.ownsRow_nil _ _ _ _⟩
  case round =>
    obtain ⟨hlt0, j, T, a', n', c', hj, rfl, rfl, hT, rfl, hn', HR⟩ := hrel
    by_cases hlt : j + 1 < m
    · obtain ⟨l, r, g1, g2, g3, g4, g5, g6⟩ := HR.out
      have HS4 : Hid (Sub a n cap bs a' n' c' r) := g4
      have HG4 : Hid (Bs wr a' n' c' r) := g4 _ (HB.out.keep g5)
      have HG5 : Hid (Below w.heap.size w wr) := g5
      have HG6 : Hid (wr.ownsRow (w.heap.size + 1) 3 1 u4 j ((ints l).map (Value.int .i64))) := g6
      have HG : Hid (l.length = j ∧ sumN l = T ∧ MidLens (m - 1) bs l r) := ⟨g1, g2, g3⟩
      clear g1 g2 g3 g4 g5 g6 HR
      cases ht : take2 r with
      | none =>
        have HT : Hid (take2 r = none) := ht
        have HN : Hid (sizes2 m true bs = none) := by
          show _ = _
          rw [HS.out none (HG.out.2.2.stop (by have := HG.out.1; omega) ht)]
        have hlt2 : (j : Int) < (m : Int) - 1 := by omega
        clear ht hlt
        go_wp2_with (go_at_call 37; go_loud (refine (cutLength_any _ _ _ _ _ HG4.out).mono ?_; rintro e w2 ⟨he, k, rfl⟩; obtain rfl := he.elim_no HT.out; clear he))
        go_ret3
        exact ⟨.no HN.out _ _ _ _ _ _, Below.drewN HG5.out _⟩
      | some q =>
        obtain ⟨x, r1⟩ := q
        have HT : Hid (take2 r = some (x, r1)) := ht
        have hx : x ≤ 1275 := take2_small HG4.out.row.small ht
        have bx : (0 : Int) ≤ x := by omega
        have bT : T ≤ 75225 := by omega
        have hlt2 : (j : Int) < (m : Int) - 1 := by omega
        have HLT : Hid (j + 1 < m) := hlt
        clear ht hlt
        go_wp2_with (first
          | (go_at_call 37; go_loud (refine (cutLength_any _ _ _ _ _ HG4.out).mono ?_; rintro e w2 ⟨he, k, rfl⟩; obtain ⟨a2, n2, c2, rfl, hb2⟩ := he.elim HT.out; have HB2 : Hid (Sub a n cap bs a2 n2 c2 r1) := HS4.out.trans hb2; clear he hb2))
          | (at_builtin; go_loud (refine wpList_append_one (w := wr.drewN k) 55 3 Tryd.underlying55 info_int (w.heap.size + 1) _ j (ints l) _ (ownsRow_of_block HG6.out fun _ _ => rfl) (by omega) (by show _ ≤ wr.heap.size; omega) rfl _ _ rfl rfl rfl ?_; rw [← ints_snoc]; intro v' w1 hown1 hb1; have HO : Hid _ := hown1; have HX : Hid (Below (w.heap.size + 1) (wr.drewN k) w1) := hb1; clear hown1 hb1)))
        go_roundw
        case rel => exact ⟨by have h := HX.out.size; have h2 : (wr.drewN k).heap.size = wr.heap.size := rfl; omega, j + 1, T + x, a2, n2, c2, HLT.out, by go_num, by go_num, by omega, rfl, (HB2.out _ HB.out).size, l ++ [x], r1, by rw [List.length_append, HG.out.1]; rfl, by rw [sumN_snoc, HG.out.2.1], HG.out.2.2.step (by have := HG.out.1; have := HLT.out; omega) HT.out, HB2.out, (Below.drewN HG5.out k).trans (HX.out.mono (by omega)), HO.out⟩
        case measure => simp [intOf]; omega
    · have HM : Hid (m = j + 1) := (by show _ = _; omega)
      have hne : ¬ (j : Int) < (m : Int) - 1 := by omega
      clear hlt
      obtain ⟨l, r, g1, g2, g3, g4, g5, g6⟩ := HR.out
      have HS4 : Hid (Sub a n cap bs a' n' c' r) := g4
      have HG4 : Hid (Bs wr a' n' c' r) := g4 _ (HB.out.keep g5)
      have HG5 : Hid (Below w.heap.size w wr) := g5
      have HG6 : Hid (wr.ownsRow (w.heap.size + 1) 3 1 u4 j ((ints l).map (Value.int .i64))) := g6
      have HG : Hid (l.length = j ∧ sumN l = T ∧ lens2 (m - 1) bs = some (l, r) ∧ r.length = n') := ⟨g1, g2, g3.all (by have := HM.out; omega), HG4.out.len⟩
      clear g1 g2 g3 g4 g5 g6 HR
      have bT : T ≤ 75225 := by omega
      by_cases hs : T ≤ n'
      · have HN : Hid (sizes2 m true bs = some (l ++ [n' - T], r)) := by
          show _ = _
          rw [HS.out _ HG.out.2.2.1]
          simp only
          rw [HG.out.2.1, HG.out.2.2.2, if_pos hs]
        have HE : Hid ((n' : Int) - (T : Int) = ((n' - T : Nat) : Int)) := by show _ = _; omega
        have bs1 : (T : Int) ≤ (n' : Int) := by omega
        go_wp2_with (at_builtin; go_loud (refine wpList_append_one 55 3 Tryd.underlying55 info_int (w.heap.size + 1) _ j (ints l) _ HG6.out (by omega) (by omega) rfl _ _ rfl rfl rfl ?_; rw [HE.out, ← ints_snoc]; intro v' w1 hown1 hb1; have HO : Hid (w1.ownsRow (w.heap.size + 1) 3 1 v' (j + 1) ((ints (l ++ [n' - T])).map (Value.int .i64))) := hown1; have HX : Hid (Below (w.heap.size + 1) wr w1) := hb1; obtain ⟨av, cv, hv⟩ := ownsRow_form hown1; subst hv; clear hown1 hb1))
        go_ret3
        exact ⟨.yes HN.out (by show World.ownsRow _ _ _ _ _ _ _; rw [ints_len, List.length_append, HG.out.1]; exact ownsRow_mono HO.out (by omega)) (by rw [List.length_append, HG.out.1]; rfl) HS4.out, HG5.out.trans (HX.out.mono (by omega))⟩
      · have HN : Hid (sizes2 m true bs = none) := by
          show _ = _
          rw [HS.out _ HG.out.2.2.1]
          simp only
          rw [HG.out.2.1, HG.out.2.2.2, if_neg hs]
        have bs1 : ¬ (T : Int) ≤ (n' : Int) := by omega
        go_wp2_with (at_builtin; go_loud (refine wpList_append_one 55 3 Tryd.underlying55 info_int (w.heap.size + 1) _ j (ints l) _ HG6.out (by omega) (by omega) rfl _ _ rfl rfl rfl ?_; intro v' w1 hown1 hb1; have HX : Hid (Below (w.heap.size + 1) wr w1) := hb1; obtain ⟨av, cv, hv⟩ := ownsRow_form hown1; subst hv; clear hown1 hb1))
        go_ret3
        exact ⟨.no HN.out _ _ _ _ _ _, HG5.out.trans (HX.out.mono (by omega))⟩

end Go.Proofs.YtgiellpepnbpcaaDoor
