/- The document's lists of lags in memory; appends to them as steps of a statement that draws its order. -/
import Derived.Test.YtamiokleolfnoaaPitchJ
import Derived.Deep.AppendLies
import Derived.Deep.RegionLaw
import Derived.Deep.RegionHeld3
namespace Go.Proofs.Ytamiokleolfnoaa
namespace Pit
open Go.RowKit

def lvals (l : List LagS) : List Value := l.flatMap fun x => [.int .i64 x.1, .int .i64 x.2]
theorem lvals_len (l : List LagS) : (lvals l).length = l.length * 2 := by
  unfold lvals
  induction l with
  | nil => rfl
  | cons x l ih => simp only [List.flatMap_cons, List.length_append, ih, List.length_cons, List.length_nil]; omega
theorem lvals_append (l m : List LagS) : lvals (l ++ m) = lvals l ++ lvals m := List.flatMap_append ..
theorem lvals_take : ∀ (l : List LagS) (j : Nat), lvals (l.take j) = (lvals l).take (j * 2)
  | [], j => by simp [lvals]
  | x :: l, 0 => by simp [lvals]
  | x :: l, j + 1 => by
    show .int .i64 x.1 :: .int .i64 x.2 :: lvals (l.take j) = (.int .i64 x.1 :: .int .i64 x.2 :: lvals l).take ((j + 1) * 2)
    rw [lvals_take l j, show (j + 1) * 2 = j * 2 + 1 + 1 by omega]
    rfl
theorem lvals_drop : ∀ (l : List LagS) (j : Nat), lvals (l.drop j) = (lvals l).drop (j * 2)
  | [], j => by simp [lvals]
  | x :: l, 0 => by simp
  | x :: l, j + 1 => by
    show lvals (l.drop j) = (.int .i64 x.1 :: .int .i64 x.2 :: lvals l).drop ((j + 1) * 2)
    rw [lvals_drop l j, show (j + 1) * 2 = j * 2 + 1 + 1 by omega]
    rfl
theorem lvals_at : ∀ (l : List LagS) (j : Nat), j < l.length → (lvals l)[j * 2]? = some (.int .i64 (l[j]?.getD (0, 0)).1) ∧ (lvals l)[j * 2 + 1]? = some (.int .i64 (l[j]?.getD (0, 0)).2)
  | [], j, h => absurd h (Nat.not_lt_zero _)
  | x :: l, 0, _ => ⟨rfl, rfl⟩
  | x :: l, j + 1, h => by
    have := lvals_at l j (by simpa using h)
    rw [show (j + 1) * 2 = j * 2 + 1 + 1 by omega]
    exact this
theorem lvals_one {l : List LagS} : ∀ u ∈ lvals l, u.oneCell' = true := fun u hu => by
  obtain ⟨x, _, hx⟩ := List.mem_flatMap.1 hu
  simp only [List.mem_cons, List.not_mem_nil, or_false] at hx
  rcases hx with rfl | rfl <;> rfl

theorem info_rlag : ∃ i, Try.prog.info? 34 = some i ∧ i.zero = some (.agg #[.int .i64 0, .int .i64 0]) ∧ i.size = 2 ∧ i.bytes = 16 := by
  have h : (Try.prog.info? 34).map (fun i => (i.zero, i.size, i.bytes)) = some (some (.agg #[.int .i64 0, .int .i64 0]), 2, 16) := by kernel_rfl
  obtain ⟨i, hi, hz⟩ := Option.map_eq_some_iff.1 h
  simp only [Prod.mk.injEq] at hz
  exact ⟨i, hi, hz.1, hz.2.1, hz.2.2⟩

/-- A list of lags that the call has made. -/
abbrev RRow (B : Nat) (w : World) (v : Value) (l : List LagS) : Prop := w.ownsRow B 34 2 v l.length (lvals l)

theorem RRow.form {B : Nat} {w : World} {v : Value} {l : List LagS} (h : RRow B w v l) : (v = .slice none 0 0 ∧ l = []) ∨ ∃ g cap, v = .slice (some ⟨g, 0, none⟩) l.length cap ∧ l.length ≤ cap ∧ B ≤ g ∧ g < w.heap.size ∧ ∀ j, j < l.length * 2 → w.cell? ⟨g, j, none⟩ = (lvals l)[j]? := by
  obtain ⟨hl, h1 | ⟨g, cap, cur, hv, hg, hh, hc, hm, hs, ht⟩⟩ := h
  · exact .inl ⟨h1.1, List.eq_nil_of_length_eq_zero h1.2⟩
  · refine .inr ⟨g, cap, hv, hc, hg, (Array.getElem?_eq_some_iff.1 hh).1, fun j hj => ?_⟩
    rw [← ht, List.getElem?_take_of_lt hj]
    simp [World.cell?, hh]

theorem RRow.keepB {B : Nat} {w w' : World} {v : Value} {l : List LagS} (h : RRow B w v l) (hb : ∀ k, k < w.heap.size → v.ownBlock = some k → w'.heap[k]? = w.heap[k]?) : RRow B w' v l :=
  row_of_block h fun k hk => hb k (ownBlock_row h hk).2 hk
theorem RRow.keep {B : Nat} {w w' : World} {v : Value} {l : List LagS} (h : RRow B w v l) (hb : Below w.heap.size w w') : RRow B w' v l := h.keepB fun k hk _ => hb.block k hk

/-- What is appended: lags that lie somewhere, or none of them. -/
def SrcL (w : World) (x : Value) (l : List LagS) : Prop := (x = .slice none 0 0 ∧ l = []) ∨ ∃ ad c, x = .slice (some ad) l.length c ∧ ∀ j u, (lvals l)[j]? = some u → w.cell? (ad.add j) = some u

theorem run_append_lags {t : TypeId} (ht : Try.prog.underlying t = some (.slice 34)) (ty : TypeId) {B : Nat} {W : World} {v x : Value} {l m : List LagS} (hown : RRow B W v l) (hsrc : SrcL W x m) (hn : l.length + m.length ≤ 100000) (hB : B ≤ W.heap.size) :
    ∃ v' w', (Builtin.append_ #[t, t] ty #[v, x]).run Try.prog W = .ok v' w' ∧ RRow B w' v' (l ++ m) ∧ W.grownBy w' v.ownBlock := by
  obtain ⟨i, hi, h1, h2, h3⟩ := info_rlag
  rcases hsrc with ⟨rfl, rfl⟩ | ⟨ad, c, rfl, hc⟩
  · refine ⟨v, W, run_append_owned_none W B t ty 34 i 2 ht hi v _ _ hown, by rw [List.append_nil]; exact hown, ⟨rfl, rfl, rfl, Nat.le_refl _, fun _ _ _ => rfl⟩⟩
  · obtain ⟨v', w', hr, ho, hg, _⟩ := run_append_own (P := Try.prog) W B t ty 34 i _ 2 16 ht hi h1 h2 h3 (by rfl) (by decide) v _ _ hown ad m.length c (lvals m) (lvals_len m) hc (fun u hu => lvals_one u hu) (by unfold maxLen; omega) (by omega) hB
    refine ⟨v', w', hr, ?_, hg⟩
    show w'.ownsRow B _ 2 v' (l ++ m).length (lvals (l ++ m))
    rw [List.length_append, lvals_append]
    exact ho

/-- As one step of a statement that draws its order. -/
theorem step_append_lags {ops : Array Oper} {o : Oper} {a : Act} {W : World} {K : Act → World → Prop} {Q : Exit → Act → World → Prop} {E : Prop} (B : Nat) (v x : Value) (l m : List LagS) (hgd : o.guard = none) (s y : Operand)
    (ho : o.op = .call { callee := .builtin .append, args := #[s, y], argTypes := #[30, 30] }) (hs : a.eval s = v) (hx : a.eval y = x) (hown : RRow B W v l) (hsrc : SrcL W x m) (hn : l.length + m.length ≤ 100000) (hB : B ≤ W.heap.size)
    (h : ∀ v' w', RRow B w' v' (l ++ m) → W.grownBy w' v.ownBlock → K (a.put o.dst v') w') :
    if Region.wanted o (yielded ops a.tmps) = true then Oper.wp Try.prog o a W K Q else E := by
  have hw : Region.wanted o (yielded ops a.tmps) = true := by simp [Region.wanted, hgd]
  rw [if_pos hw]
  obtain ⟨v', w', hr, h1, h2⟩ := run_append_lags Try.underlying30 o.type hown hsrc hn hB
  unfold Oper.wp
  simp [execOp, ho, resolve, invoke, builtin, hs, hx, hr, Result.andThen]
  exact h v' w' h1 h2

theorem made_empty (U : World) {B : Nat} (hB : B ≤ U.heap.size) : RRow B (U.alloc (.cells #[] 34)) (.slice (some ⟨U.heap.size, 0, none⟩) 0 0) [] := World.ownsRow_made U #[] 0 hB (by decide) rfl
theorem srcL_block {W : World} {X : Nat} {q sc : Int} {fr : Nat × Nat} (h : W.heap[X]? = some (.cells #[.int .i64 q, .int .i64 sc] 34 fr)) : SrcL W (.slice (some ⟨X, 0, none⟩) 1 1) [(q, sc)] :=
  .inr ⟨_, _, rfl, World.news_of_block h⟩
theorem RRow.pos {B : Nat} {w : World} {v : Value} {l : List LagS} {n : Nat} (h : RRow B w v l) (hl : l.length = n + 1) : ∃ g cap, v = .slice (some ⟨g, 0, none⟩) (n + 1) cap ∧ n + 1 ≤ cap := by
  rcases h.form with ⟨_, rfl⟩ | ⟨g, cap, hv, hc, _⟩
  · cases hl
  · rw [hl] at hv hc
    exact ⟨g, cap, hv, hc⟩
theorem RRow.some_of {B : Nat} {w : World} {v : Value} {l : List LagS} {n : Nat} (h : RRow B w v l) (hl : l.length = n) (h0 : 0 < n) : ∃ g cap, v = .slice (some ⟨g, 0, none⟩) n cap ∧ g < w.heap.size ∧ ∀ j, j < n → w.cell? ⟨g, j * 2, none⟩ = some (.int .i64 (l[j]?.getD (0, 0)).1) ∧ w.cell? ⟨g, j * 2 + 1, none⟩ = some (.int .i64 (l[j]?.getD (0, 0)).2) := by
  rcases h.form with ⟨_, rfl⟩ | ⟨g, cap, hv, _, _, hg, hc⟩
  · rw [← hl] at h0
    exact absurd h0 (Nat.not_lt_zero _)
  · rw [hl] at hv hc
    refine ⟨g, cap, hv, hg, fun j hj => ?_⟩
    obtain ⟨h1, h2⟩ := lvals_at l j (by omega)
    exact ⟨(hc _ (by omega)).trans h1, (hc _ (by omega)).trans h2⟩
theorem RRow.take {B g n cap : Nat} {w : World} {l : List LagS} (h : RRow B w (.slice (some ⟨g, 0, none⟩) n cap) l) (hl : l.length = n) {b : Nat} (hb : b ≤ n) : RRow B w (.slice (some ⟨g, 0, none⟩) b cap) (l.take b) := by
  obtain ⟨_, h1 | ⟨g', cap', cur, hv, h1, h2, h3, h4, h5, h6⟩⟩ := h
  · cases h1.1
  · cases hv
    have hlb : (l.take b).length = b := by rw [List.length_take]; omega
    refine ⟨lvals_len _, .inr ⟨g, cap, cur, by rw [hlb], h1, h2, by omega, h4, h5, ?_⟩⟩
    rw [lvals_take, ← h6, hlb, hl, List.take_take, Nat.min_eq_left (by omega)]
theorem RRow.lower {B B' : Nat} {w : World} {v : Value} {l : List LagS} (h : RRow B w v l) (hB : B' ≤ B) : RRow B' w v l := by
  obtain ⟨h0, h1 | ⟨g', cap', cur, hv, h1, h2⟩⟩ := h
  · exact ⟨h0, .inl h1⟩
  · exact ⟨h0, .inr ⟨g', cap', cur, hv, Nat.le_trans hB h1, h2⟩⟩
/-- A part of a list that lies in memory. -/
theorem RRow.srcs {B g n cap : Nat} {w : World} {l : List LagS} (h : RRow B w (.slice (some ⟨g, 0, none⟩) n cap) l) (hl : l.length = n) {j : Nat} (hj : j ≤ n) : (∀ c, SrcL w (.slice (some ⟨g, 0, none⟩) j c) (l.take j)) ∧ ∀ nn c, nn = n - j → SrcL w (.slice (some ⟨g, j * 2, none⟩) nn c) (l.drop j) := by
  have hcell : ∀ i, i < l.length * 2 → w.cell? ⟨g, i, none⟩ = (lvals l)[i]? := by
    rcases h.form with ⟨hv, _⟩ | ⟨g', cap', hv, _, _, _, hc⟩
    · cases hv
    · cases hv
      exact hc
  refine ⟨fun c => .inr ⟨_, c, by rw [List.length_take, hl, Nat.min_eq_left hj], fun i u hu => ?_⟩, fun nn c hnn => .inr ⟨⟨g, j * 2, none⟩, c, by rw [List.length_drop, hl, hnn], fun i u hu => ?_⟩⟩
  · rw [Addr.add_lit, Nat.zero_add]
    rw [lvals_take] at hu
    have hi : i < j * 2 := by
      rcases Nat.lt_or_ge i (j * 2) with h | h
      · exact h
      · rw [List.getElem?_eq_none (by rw [List.length_take]; omega)] at hu
        cases hu
    rw [List.getElem?_take_of_lt hi] at hu
    rw [hcell i (by omega), hu]
  · rw [Addr.add_lit]
    rw [lvals_drop, List.getElem?_drop] at hu
    have hi : j * 2 + i < l.length * 2 := by
      rcases Nat.lt_or_ge (j * 2 + i) (l.length * 2) with h | h
      · exact h
      · rw [List.getElem?_eq_none (by rw [lvals_len]; omega)] at hu
        cases hu
    rw [hcell _ hi, hu]

/-! ### One statement, its lists laid in any order -/
/-- An empty list of the call's own, nothing older has turned. -/
def Pre (V W : World) (v : Value) : Prop := RRow V.heap.size W v [] ∧ Below V.heap.size V W
/-- The one lag that is put in lies in a block of its own. -/
def XAt (W : World) (X : Nat) (q sc : Int) : Prop := W.heap[X]? = some (.cells #[.int .i64 q, .int .i64 sc] 34)

theorem pre_A (V : World) (N : Nat) : Pre V ((V.drewN N).alloc (.cells #[] 34)) (.slice (some ⟨V.heap.size, 0, none⟩) 0 0) :=
  ⟨made_empty (V.drewN N) (Nat.le_refl _), (below_drewN (Below.refl _ _) N).alloc (Nat.le_refl _) _⟩
theorem pre_B (V : World) (N : Nat) (q sc : Int) : Pre V (((V.drewN N).alloc (.cells #[] 34)).alloc (.cells #[.int .i64 q, .int .i64 sc] 34)) (.slice (some ⟨V.heap.size, 0, none⟩) 0 0) :=
  ⟨(pre_A V N).1.keep ((Below.refl _ _).alloc (Nat.le_refl _) _), (pre_A V N).2.alloc (pre_A V N).2.size _⟩
theorem xat_B (V : World) (N : Nat) (q sc : Int) : XAt (((V.drewN N).alloc (.cells #[] 34)).alloc (.cells #[.int .i64 q, .int .i64 sc] 34)) (V.heap.size + 1) q sc := by
  have h := heap_alloc_new ((V.drewN N).alloc (.cells #[] 34)) (.cells #[.int .i64 q, .int .i64 sc] 34)
  have e : ((V.drewN N).alloc (.cells #[] 34)).heap.size = V.heap.size + 1 := by simp
  rw [e] at h
  exact h
theorem pre_C (V : World) (N : Nat) (q sc : Int) : Pre V (((V.drewN N).alloc (.cells #[.int .i64 q, .int .i64 sc] 34)).alloc (.cells #[] 34)) (.slice (some ⟨V.heap.size + 1, 0, none⟩) 0 0) := by
  have hb : Below V.heap.size V ((V.drewN N).alloc (.cells #[.int .i64 q, .int .i64 sc] 34)) := (below_drewN (Below.refl _ _) N).alloc (Nat.le_refl _) _
  have h := made_empty ((V.drewN N).alloc (.cells #[.int .i64 q, .int .i64 sc] 34)) hb.size
  have e : ((V.drewN N).alloc (.cells #[.int .i64 q, .int .i64 sc] 34)).heap.size = V.heap.size + 1 := by simp
  rw [e] at h
  exact ⟨h, hb.alloc hb.size _⟩
theorem xat_C (V : World) (N : Nat) (q sc : Int) : XAt (((V.drewN N).alloc (.cells #[.int .i64 q, .int .i64 sc] 34)).alloc (.cells #[] 34)) V.heap.size q sc := by
  have h := heap_alloc_new (V.drewN N) (.cells #[.int .i64 q, .int .i64 sc] 34)
  exact (Below.heap_alloc _ _ _ (by simp)).trans h

theorem grown_below {V W w' : World} {v : Value} {l : List LagS} (hown : RRow V.heap.size W v l) (hb : Below V.heap.size V W) (hg : W.grownBy w' v.ownBlock) : Below V.heap.size V w' :=
  hb.trans ((Below.refl _ W).grown hg hb.size (fun _ hk => (ownBlock_row hown hk).1))
theorem XAt.next {W w' : World} {X : Nat} {q sc : Int} (h : XAt W X q sc) {y : Nat} (hg : W.grownBy w' (some y)) (hy : X ≠ y) : XAt w' X q sc :=
  (hg.block X (Array.getElem?_eq_some_iff.1 h).1 (fun e => hy (by cases e; rfl))).trans h
theorem XAt.src {W : World} {X : Nat} {q sc : Int} (h : XAt W X q sc) : SrcL W (.slice (some ⟨X, 0, none⟩) 1 1) [(q, sc)] := srcL_block h
theorem xat_new (W : World) (q sc : Int) : XAt (W.alloc (.cells #[.int .i64 q, .int .i64 sc] 34)) W.heap.size q sc := heap_alloc_new W _

end Pit
end Go.Proofs.Ytamiokleolfnoaa
