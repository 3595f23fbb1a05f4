/- What package toc's Parse comes to. (The ways of it are laid by wip/mkparse.py.) -/
import Derived.Test.YtgiellpepnbpcaaDoorTocE
import Derived.Test.YtgiellpepnbpcaaDoorTocH
namespace Go.Proofs.YtgiellpepnbpcaaDoor
open Go.RowKit

def PkV (p : Pk) (v : Value) : Value := .agg #[.int .i64 (p.config : Nat), .int .i64 (p.ch : Nat), v, .int .i64 (p.pad : Nat)]

def ParseAns (B : Nat) (w : World) (bs : List Nat) (e : Ending) : Prop :=
  match parseN bs with
  | none => e = .returned (.tuple #[.agg #[.int .i64 0, .int .i64 0, .slice none 0 0, .int .i64 0], .int .i64 3])
  | some p => ∃ v, e = .returned (.tuple #[PkV p v, .int .i64 0]) ∧ Frs B w v p.frames

theorem ParseAns.no {B : Nat} {w : World} {bs : List Nat} (h : parseN bs = none) : ParseAns B w bs (.returned (.tuple #[.agg #[.int .i64 0, .int .i64 0, .slice none 0 0, .int .i64 0], .int .i64 3])) := by
  unfold ParseAns; rw [h]
theorem ParseAns.yes {B : Nat} {w : World} {bs : List Nat} {p : Pk} (h : parseN bs = some p) {v : Value} (hv : Frs B w v p.frames) {c ch pad : Int} (h1 : c = (p.config : Nat)) (h2 : ch = (p.ch : Nat)) (h3 : pad = (p.pad : Nat)) : ParseAns B w bs (.returned (.tuple #[.agg #[.int .i64 c, .int .i64 ch, v, .int .i64 pad], .int .i64 0])) := by
  unfold ParseAns; rw [h, h1, h2, h3]; exact ⟨v, rfl, hv⟩

theorem HeadAns.elim_no {a0 : Option Addr} {n0 c0 code : Nat} {bs : List Nat} {e : Ending} (h : HeadAns a0 n0 c0 code bs e) (hq : headP code bs = none) : e = .returned (.tuple #[.agg #[.int .i64 0, .bool false, .bool false], .slice none 0 0, .bool false]) := by
  unfold HeadAns at h; rw [hq] at h; exact h
theorem HeadAns.elim {a0 : Option Addr} {n0 c0 code : Nat} {bs r : List Nat} {m : Nat} {t p : Bool} {e : Ending} (h : HeadAns a0 n0 c0 code bs e) (hq : headP code bs = some (m, t, p, r)) : ∃ a n c, e = .returned (.tuple #[.agg #[.int .i64 (m : Nat), .bool t, .bool p], .slice a n c, .bool true]) ∧ Sub a0 n0 c0 bs a n c r := by
  unfold HeadAns at h; rw [hq] at h; exact h
theorem PadAns.elim_no {a0 : Option Addr} {n0 c0 : Nat} {bs : List Nat} {e : Ending} (h : PadAns a0 n0 c0 bs e) (hq : padP bs = none) : e = .returned (.tuple #[.int .i64 0, .slice none 0 0, .bool false]) := by
  unfold PadAns at h; rw [hq] at h; exact h
theorem PadAns.elim {a0 : Option Addr} {n0 c0 : Nat} {bs r : List Nat} {p : Nat} {e : Ending} (h : PadAns a0 n0 c0 bs e) (hq : padP bs = some (p, r)) : ∃ a n c, e = .returned (.tuple #[.int .i64 (p : Nat), .slice a n c, .bool true]) ∧ Sub a0 n0 c0 bs a n c r := by
  unfold PadAns at h; rw [hq] at h; exact h
theorem SizeAns.elim_no {a0 : Option Addr} {n0 c0 B m : Nat} {t : Bool} {w : World} {bs : List Nat} {e : Ending} (h : SizeAns a0 n0 c0 B w m t bs e) (hq : sizes2 m t bs = none) : ∃ a1 n1 c1 a2 n2 c2, e = .returned (.tuple #[.slice a1 n1 c1, .slice a2 n2 c2, .bool false]) := by
  unfold SizeAns at h; rw [hq] at h; exact h
theorem SizeAns.elim {a0 : Option Addr} {n0 c0 B m : Nat} {t : Bool} {w : World} {bs l r : List Nat} {e : Ending} (h : SizeAns a0 n0 c0 B w m t bs e) (hq : sizes2 m t bs = some (l, r)) : ∃ a1 n1 c1 a2 n2 c2, e = .returned (.tuple #[.slice a1 n1 c1, .slice a2 n2 c2, .bool true]) ∧ Oi B w (.slice a1 n1 c1) (ints l) ∧ n1 = l.length ∧ Sub a0 n0 c0 bs a2 n2 c2 r := by
  unfold SizeAns at h; rw [hq] at h; exact h

theorem headOf_any (z : Int) (code : Nat) (hz : z = (code : Nat)) (hc : code < 4) (a : Option Addr) (n cap : Nat) (bs : List Nat) (w : World) (h : Bs w a n cap bs) :
    Calls Tryd.prog 22 #[.int .i64 z, .slice a n cap] w fun e w' => HeadAns a n cap code bs e ∧ Below w.heap.size w w' := by
  subst hz
  by_cases h3 : code < 3
  · exact headOf_few code h3 a n cap bs w
  · obtain rfl : code = 3 := by omega
    exact headOf_three a n cap bs w h

theorem sizesOf_any (m : Nat) (t p : Bool) (a : Option Addr) (n cap : Nat) (bs : List Nat) (w : World) (h : Bs w a n cap bs) (h1 : 1 ≤ m) (h2 : m ≤ 60) :
    Calls Tryd.prog 25 #[.agg #[.int .i64 (m : Nat), .bool t, .bool p], .slice a n cap] w fun e w' => SizeAns a n cap w.heap.size w' m t bs e ∧ Below w.heap.size w w' := by
  cases t
  · exact sizesOf_even m p a n cap bs w h h1 h2
  · exact sizesOf_told m p a n cap bs w h h1 h2

theorem sumN_rep (m k : Nat) : sumN (List.replicate m k) = m * k := by
  induction m with
  | zero => show 0 = _; omega
  | succ m ih => rw [List.replicate_succ]; show k + sumN _ = _; rw [ih, Nat.add_mul]; omega

theorem sizes2_is {m : Nat} {t : Bool} {r l r3 : List Nat} (h1 : 1 ≤ m) (h : sizes2 m t r = some (l, r3)) : sumN l ≤ r3.length ∧ l.length = m := by
  unfold sizes2 at h
  cases t
  · rw [if_neg (by simp)] at h
    split at h
    · cases h
      rw [sumN_rep, List.length_replicate]
      exact ⟨Nat.mul_div_le _ _, rfl⟩
    · cases h
  · rw [if_pos rfl] at h
    cases hl : lens2 (m - 1) r with
    | none => rw [hl] at h; cases h
    | some q =>
      obtain ⟨l2, r2⟩ := q
      rw [hl] at h
      simp only at h
      split at h
      · cases h
        have := (lens2_len (m - 1) hl).2
        rw [sumN_snoc, List.length_append]
        exact ⟨by omega, by simp; omega⟩
      · cases h

theorem headP_le {code : Nat} {bs r : List Nat} {m : Nat} {t p : Bool} (h : headP code bs = some (m, t, p, r)) : m ≤ 63 := by
  unfold headP at h
  split at h
  · cases h; decide
  split at h
  · cases h; decide
  split at h
  · cases h; decide
  · cases bs with
    | nil => cases h
    | cons v r' => cases h; omega

theorem padN_len : ∀ (r : List Nat) (q : Nat) {p : Nat} {r' : List Nat}, padN r q = some (p, r') → r'.length ≤ r.length
  | [], _, _, _, h => by cases h
  | c :: r, q, p, r', h => by
    by_cases hc : c = 255
    · have e : padN (c :: r) q = padN r (q + 254) := if_pos hc
      rw [e] at h
      have := padN_len r (q + 254) h
      simp; omega
    · have e : padN (c :: r) q = some (q + c, r) := if_neg hc
      rw [e] at h; cases h
      simp

theorem padP_le {r r2 : List Nat} {p : Nat} (h : padP r = some (p, r2)) : p ≤ r.length := by
  unfold padP at h
  cases hp : padN r 0 with
  | none => rw [hp] at h; cases h
  | some q =>
    obtain ⟨p', r'⟩ := q
    rw [hp] at h
    simp only at h
    have := padN_len r 0 hp
    split at h
    · cases h; omega
    · cases h

theorem headP_len {code : Nat} {bs r : List Nat} {m : Nat} {t p : Bool} (h : headP code bs = some (m, t, p, r)) : r.length ≤ bs.length := by
  unfold headP at h
  split at h
  · cases h; exact Nat.le_refl _
  split at h
  · cases h; exact Nat.le_refl _
  split at h
  · cases h; exact Nat.le_refl _
  · cases bs with
    | nil => cases h
    | cons v r' => cases h; simp

theorem oi_new {B : Nat} {w : World} {a : Option Addr} {n c : Nat} {zs : List Int} (h : Oi B w (.slice a n c) zs) : NewRow 3 B w a zs := by
  obtain ⟨_, a', c', hv, hn⟩ := NewRow.of_owned h
  cases hv
  exact hn

theorem results_cell_tmp {P : Program} {fn : Func} {p q : Tmp} {ty : TypeId} (h : fn.results = #[.cell p ty, .tmp q]) (tmps : Array Value) (w : World) (g : Nat) (t : TypeId) (cs : Array Value) (fr : Nat × Nat) (d : TypeDesc)
    (hp : tmps.getD p undef = .pointer (some ⟨g, 0, none⟩)) (hg : w.heap[g]? = some (.cells cs t fr))
    (hu : P.underlying ty = some d) (hd : (match d with | .struct _ | .array _ _ => true | _ => false) = true) (hi : (P.info? ty).map (·.size) = some cs.size) :
    (results fn tmps).run P w = .ok (.tuple #[.agg cs, tmps.getD q undef]) w := by
  have hp' : tmps[p]?.getD undef = .pointer (some ⟨g, 0, none⟩) := by simpa using hp
  simp [results, h, hp', asAddr, run_loadVar_row w g t ty cs fr d hg hu hd hi]

/-- Block g holds these four cells. -/
def Four (w : World) (g : Nat) (t : TypeId) (v0 v1 v2 v3 : Value) : Prop := w.heap[g]? = some (.cells #[v0, v1, v2, v3] t (0, 0))

theorem four_set {w : World} {g : Nat} {t : TypeId} {cs : Array Value} (h : w.heap[g]? = some (.cells cs t (0, 0))) (i : Nat) (u : Value) : (w.setCell ⟨g, i, none⟩ u).heap[g]? = some (.cells (cs.setIfInBounds i u) t (0, 0)) := by
  simp [World.setCell, Array.getElem?_modify, h]

theorem Four.lt {w : World} {g : Nat} {t : TypeId} {v0 v1 v2 v3 : Value} (h : Four w g t v0 v1 v2 v3) : g < w.heap.size := (Array.getElem?_eq_some_iff.1 h).1
theorem Four.alloc {w : World} {g : Nat} {t : TypeId} {v0 v1 v2 v3 : Value} (h : Four w g t v0 v1 v2 v3) (o : Obj) : Four (w.alloc o) g t v0 v1 v2 v3 := (heap_alloc_old w o h.lt).trans h
theorem Four.keep {w w' : World} {g : Nat} {t : TypeId} {v0 v1 v2 v3 : Value} (h : Four w g t v0 v1 v2 v3) (hb : Below w.heap.size w w') : Four w' g t v0 v1 v2 v3 := (hb.block g h.lt).trans h
theorem Four.drewN {w : World} {g : Nat} {t : TypeId} {v0 v1 v2 v3 : Value} (h : Four w g t v0 v1 v2 v3) (k : Nat) : Four (w.drewN k) g t v0 v1 v2 v3 := h
theorem Four.other {w : World} {g : Nat} {t : TypeId} {v0 v1 v2 v3 : Value} (h : Four w g t v0 v1 v2 v3) {b : Nat} (i : Nat) (hb : g ≠ b) (u : Value) : Four (w.setCell ⟨b, i, none⟩ u) g t v0 v1 v2 v3 := (Below.heap_setCell _ _ _ _ hb).trans h
theorem Four.set {w : World} {g : Nat} {t : TypeId} {v0 v1 v2 v3 : Value} (h : Four w g t v0 v1 v2 v3) (u0 u1 u2 u3 : Value) : Four ((((w.setCell ⟨g, 0, none⟩ u0).setCell ⟨g, 1, none⟩ u1).setCell ⟨g, 2, none⟩ u2).setCell ⟨g, 3, none⟩ u3) g t u0 u1 u2 u3 := by
  exact four_set (four_set (four_set (four_set h 0 u0) 1 u1) 2 u2) 3 u3

theorem four_new (w : World) (v0 v1 v2 v3 : Value) (t : TypeId) : Four (w.alloc (.cells #[v0, v1, v2, v3] t)) w.heap.size t v0 v1 v2 v3 := heap_alloc_new w _

theorem below_set4 {w W : World} (h : Below w.heap.size w W) (u0 u1 u2 u3 : Value) : Below w.heap.size w ((((W.setCell ⟨w.heap.size, 0, none⟩ u0).setCell ⟨w.heap.size, 1, none⟩ u1).setCell ⟨w.heap.size, 2, none⟩ u2).setCell ⟨w.heap.size, 3, none⟩ u3) :=
  (((h.setCell (Nat.le_refl _) _).setCell (Nat.le_refl _) _).setCell (Nat.le_refl _) _).setCell (Nat.le_refl _) _
theorem below_setP {w W : World} (h : Below w.heap.size w W) (i : Nat) (u : Value) : Below w.heap.size w (W.setCell ⟨w.heap.size + 1, i, none⟩ u) := h.setCell (Nat.le_succ _) _
theorem below_alloc {w W : World} (h : Below w.heap.size w W) (o : Obj) : Below w.heap.size w (W.alloc o) := h.alloc h.size o
theorem four_otherP {w W : World} {t : TypeId} {v0 v1 v2 v3 : Value} (h : Four W w.heap.size t v0 v1 v2 v3) (i : Nat) (u : Value) : Four (W.setCell ⟨w.heap.size + 1, i, none⟩ u) w.heap.size t v0 v1 v2 v3 := h.other i (by omega) u

theorem Frs.of_blocks {B : Nat} {w w' : World} {v : Value} {fs : List (List Nat)} (h : Frs B w v fs) (hk : ∀ k, B ≤ k → k < w.heap.size → w'.heap[k]? = w.heap[k]?) : Frs B w' v fs := by
  obtain ⟨⟨us, h1, h2⟩, h3, h4⟩ := h
  refine ⟨⟨us, ownsRow_of_block h1 fun k hk1 => hk k (h1.lt k hk1).1 (h1.lt k hk1).2, fun (i : Nat) (f : List Nat) hf => ?_⟩, h3, h4⟩
  obtain ⟨u, g1, g2, g3⟩ := h2 i f hf
  exact ⟨u, g1, ownsRow_of_block g2 fun k hk1 => hk k (g2.lt k hk1).1 (g2.lt k hk1).2, g3⟩

theorem frs_set4P {w W : World} {v : Value} {fs : List (List Nat)} (h : ∃ B, w.heap.size + 1 < B ∧ Frs B W v fs) (i : Nat) (u u0 u1 u2 u3 : Value) :
    Frs w.heap.size (((((W.setCell ⟨w.heap.size + 1, i, none⟩ u).setCell ⟨w.heap.size, 0, none⟩ u0).setCell ⟨w.heap.size, 1, none⟩ u1).setCell ⟨w.heap.size, 2, none⟩ u2).setCell ⟨w.heap.size, 3, none⟩ u3) v fs := by
  obtain ⟨B, hB, hf⟩ := h
  refine (hf.of_blocks fun k hk _ => ?_).mono (by omega)
  rw [Below.heap_setCell _ _ _ _ (by show k ≠ w.heap.size; omega), Below.heap_setCell _ _ _ _ (by show k ≠ w.heap.size; omega), Below.heap_setCell _ _ _ _ (by show k ≠ w.heap.size; omega), Below.heap_setCell _ _ _ _ (by show k ≠ w.heap.size; omega), Below.heap_setCell _ _ _ _ (by show k ≠ w.heap.size + 1; omega)]

theorem parse_ret {v0 v1 v2 v3 : Value} {a : Act} {w : World} {g : Nat} {t : TypeId} {R : Ending → World → Prop} (h : Four w g t v0 v1 v2 v3) (h2 : a.tmps.getD 2 undef = .pointer (some ⟨g, 0, none⟩)) {x : Value} (h3 : a.tmps.getD 3 undef = x) (hd : a.defers = []) (hR : R (.returned (.tuple #[.agg #[v0, v1, v2, v3], x])) w) : bodyPost Tryd.prog Tryd.f10 R .ret a w := by
  subst h3
  exact bodyPost_ret (results_cell_tmp rfl a.tmps w g t _ _ _ h2 h Tryd.underlying25 rfl (by kernel_rfl)) hd hR

theorem parse_nil (a : Option Addr) (cap : Nat) (w : World) :
    Calls Tryd.prog 10 #[.slice a 0 cap] w fun e w' => ParseAns w.heap.size w' [] e ∧ Below w.heap.size w w' := by
  go_enter Tryd.func10, Tryd.ntmps10
  go_wp2
  exact bodyPost_ret (v := .tuple #[.agg #[.int .i64 0, .int .i64 0, .slice none 0 0, .int .i64 0], .int .i64 3]) (by simp [results, Tryd.results10, go_sem]) rfl ⟨.no rfl, (Below.refl _ _).alloc (Nat.le_refl _) _⟩

end Go.Proofs.YtgiellpepnbpcaaDoor
