/- The document's own Parse, in the midst: the taker, the packet that it fills, the frames so far. -/
import Derived.Test.YtgiellpepnbpcaaDoorTocZd
namespace Go.Proofs.YtgiellpepnbpcaaDoor
open Go.RowKit

theorem Tak.same {w0 w w' : World} {g : Nat} {a0 : Option Addr} {n0 c0 : Nat} {bs : List Nat} {bad : Bool} {r : List Nat} (h : Tak w0 w g a0 n0 c0 bs bad r) (hh : w'.heap = w.heap) (h1 : w'.os = w.os) (h2 : w'.tape = w.tape) (h3 : w'.output = w.output) : Tak w0 w' g a0 n0 c0 bs bad r := by
  obtain ⟨a, n, c, k1, k2⟩ := h.tk
  exact ⟨h.bytes, ⟨h1.trans h.below.os, h2.trans h.below.tape, h3.trans h.below.output, by rw [hh]; exact h.below.size, fun k hk => by rw [hh]; exact h.below.block k hk⟩, h.base, a, n, c, by unfold Tk at k1 ⊢; rw [hh]; exact k1, k2⟩

theorem Tak.below_of {w0 w w' : World} {g B : Nat} {a0 : Option Addr} {n0 c0 : Nat} {bs : List Nat} {bad : Bool} {r : List Nat} (h : Tak w0 w g a0 n0 c0 bs bad r) (hb : Below B w w') (hg : g < B) : Tak w0 w' g a0 n0 c0 bs bad r := by
  obtain ⟨a, n, c, h1, h2⟩ := h.tk
  exact ⟨h.bytes, h.below.trans (hb.mono (by have := h.base; omega)), h.base, a, n, c, (hb.block g hg).trans h1, h2⟩

/-- Bad: the taker says so, and nothing else has turned. -/
structure Bd (w0 wB : World) (g q : Nat) (a0 : Option Addr) (n0 c0 : Nat) (bs : List Nat) (W : World) : Prop where
  tak : ∃ r, Tak w0 W g a0 n0 c0 bs true r
  size : wB.heap.size ≤ W.heap.size
  rest : ∀ k, k < wB.heap.size → k ≠ g → k ≠ q → W.heap[k]? = wB.heap[k]?

/-- In the midst: r is left, the packet at q holds the frames fs at v and the padding p. -/
structure Mpk (w0 wB : World) (g q : Nat) (a0 : Option Addr) (n0 c0 : Nat) (bs : List Nat) (cfg ch : Int) (W : World) (r : List Nat) (v : Value) (p : Int) (fs : List (List Nat)) : Prop where
  tak : Tak w0 W g a0 n0 c0 bs false r
  box : Four W q 39 (.int .i64 cfg) (.int .i64 ch) v (.int .i64 p)
  fr : Frs wB.heap.size W v fs
  gB : g < wB.heap.size
  qB : q < wB.heap.size
  q0 : w0.heap.size ≤ q
  ne : g ≠ q
  size : wB.heap.size ≤ W.heap.size
  rest : ∀ k, k < wB.heap.size → k ≠ g → k ≠ q → W.heap[k]? = wB.heap[k]?

section
variable {w0 wB W : World} {g q : Nat} {a0 : Option Addr} {n0 c0 : Nat} {bs : List Nat} {cfg ch : Int} {r : List Nat} {v : Value} {p : Int} {fs : List (List Nat)}

theorem Mpk.same (h : Mpk w0 wB g q a0 n0 c0 bs cfg ch W r v p fs) {W' : World} (hh : W'.heap = W.heap) (h1 : W'.os = W.os) (h2 : W'.tape = W.tape) (h3 : W'.output = W.output) : Mpk w0 wB g q a0 n0 c0 bs cfg ch W' r v p fs :=
  ⟨h.tak.same hh h1 h2 h3, by unfold Four; rw [hh]; exact h.box, h.fr.of_blocks (fun k _ _ => by rw [hh]), h.gB, h.qB, h.q0, h.ne, by rw [hh]; exact h.size, fun k a b c => by rw [hh]; exact h.rest k a b c⟩
theorem Mpk.drew (h : Mpk w0 wB g q a0 n0 c0 bs cfg ch W r v p fs) : Mpk w0 wB g q a0 n0 c0 bs cfg ch W.drew r v p fs := h.same rfl rfl rfl rfl
theorem Mpk.drewN (h : Mpk w0 wB g q a0 n0 c0 bs cfg ch W r v p fs) (k : Nat) : Mpk w0 wB g q a0 n0 c0 bs cfg ch (W.drewN k) r v p fs := h.same rfl rfl rfl rfl

theorem Only.four {w w' : World} {k : Nat} {t : TypeId} {v0 v1 v2 v3 : Value} {g : Nat} (ho : Only g w w') (h : Four w k t v0 v1 v2 v3) (hk : k ≠ g) : Four w' k t v0 v1 v2 v3 := (ho.block k h.lt hk).trans h

/-- The taker went on. -/
theorem Mpk.call (h : Mpk w0 wB g q a0 n0 c0 bs cfg ch W r v p fs) {W' : World} {r' : List Nat} (ho : Only g W W') (ht : TkB W' g a0 n0 c0 bs false r') : Mpk w0 wB g q a0 n0 c0 bs cfg ch W' r' v p fs :=
  ⟨h.tak.step ho ht, ho.four h.box h.ne.symm, h.fr.of_blocks (fun k hk hk2 => ho.block k hk2 (by have := h.gB; omega)), h.gB, h.qB, h.q0, h.ne, Nat.le_trans h.size ho.size, fun k a b c => (ho.block k (Nat.lt_of_lt_of_le a h.size) b).trans (h.rest k a b c)⟩
theorem Mpk.took (h : Mpk w0 wB g q a0 n0 c0 bs cfg ch W r v p fs) {W' : World} {r' : List Nat} (ho : Only g W W') (ht : Tak w0 W' g a0 n0 c0 bs false r') : Mpk w0 wB g q a0 n0 c0 bs cfg ch W' r' v p fs := h.call ho ht.tk
/-- The taker went bad. -/
theorem Mpk.bad (h : Mpk w0 wB g q a0 n0 c0 bs cfg ch W r v p fs) {W' : World} {r' : List Nat} (ho : Only g W W') (ht : TkB W' g a0 n0 c0 bs true r') : Bd w0 wB g q a0 n0 c0 bs W' :=
  ⟨⟨r', h.tak.step ho ht⟩, Nat.le_trans h.size ho.size, fun k a b c => (ho.block k (Nat.lt_of_lt_of_le a h.size) b).trans (h.rest k a b c)⟩
/-- 't.bad = true'. -/
theorem Mpk.setBad (h : Mpk w0 wB g q a0 n0 c0 bs cfg ch W r v p fs) : Bd w0 wB g q a0 n0 c0 bs (W.setCell ⟨g, 1, none⟩ (.bool true)) := by
  obtain ⟨a, n, c, h1, h2⟩ := h.tak.tk
  exact h.bad (r' := r) ((Only.refl g W).set 1 _) ⟨a, n, c, h1.set1 true, h2⟩
theorem Bd.setBad (h : Bd w0 wB g q a0 n0 c0 bs W) : Bd w0 wB g q a0 n0 c0 bs (W.setCell ⟨g, 1, none⟩ (.bool true)) := by
  obtain ⟨r, ht⟩ := h.tak
  obtain ⟨a, n, c, h1, h2⟩ := ht.tk
  have ho := (Only.refl g W).set 1 (.bool true)
  exact ⟨⟨r, ht.step ho ⟨a, n, c, h1.set1 true, h2⟩⟩, Nat.le_trans h.size ho.size, fun k a b c => (ho.block k (Nat.lt_of_lt_of_le a h.size) b).trans (h.rest k a b c)⟩
theorem Bd.same (h : Bd w0 wB g q a0 n0 c0 bs W) {W' : World} (hh : W'.heap = W.heap) (h1 : W'.os = W.os) (h2 : W'.tape = W.tape) (h3 : W'.output = W.output) : Bd w0 wB g q a0 n0 c0 bs W' := by
  obtain ⟨r, ht⟩ := h.tak
  exact ⟨⟨r, ht.same hh h1 h2 h3⟩, by rw [hh]; exact h.size, fun k a b c => by rw [hh]; exact h.rest k a b c⟩
theorem Bd.drewN (h : Bd w0 wB g q a0 n0 c0 bs W) (k : Nat) : Bd w0 wB g q a0 n0 c0 bs (W.drewN k) := h.same rfl rfl rfl rfl
/-- 't.bad' of a bad one. -/
theorem Bd.cells (h : Bd w0 wB g q a0 n0 c0 bs W) : W.cell? ⟨g, 1, none⟩ = some (.bool true) ∧ W.frozen? ⟨g, 1, none⟩ = false := by
  obtain ⟨r, ht⟩ := h.tak
  obtain ⟨a, n, c, h1, _⟩ := ht.tk
  exact ⟨h1.cells.2, h1.frozen.2⟩

theorem Mpk.alloc (h : Mpk w0 wB g q a0 n0 c0 bs cfg ch W r v p fs) (o : Obj) : Mpk w0 wB g q a0 n0 c0 bs cfg ch (W.alloc o) r v p fs :=
  have hb : Below W.heap.size W (W.alloc o) := (Below.refl _ _).alloc (Nat.le_refl _) o
  ⟨h.tak.keep hb, h.box.alloc o, h.fr.keep hb, h.gB, h.qB, h.q0, h.ne, Nat.le_trans h.size hb.size, fun k a b c => (hb.block k (Nat.lt_of_lt_of_le a h.size)).trans (h.rest k a b c)⟩

/-- What the packet's frames hold, where they have been grown and not yet laid down. -/
theorem Mpk.grown (h : Mpk w0 wB g q a0 n0 c0 bs cfg ch W r v p fs) {W' : World} (hb : Below wB.heap.size W W') : Tak w0 W' g a0 n0 c0 bs false r ∧ Four W' q 39 (.int .i64 cfg) (.int .i64 ch) v (.int .i64 p) ∧ (∀ k, k < wB.heap.size → k ≠ g → k ≠ q → W'.heap[k]? = wB.heap[k]?) ∧ wB.heap.size ≤ W'.heap.size :=
  ⟨h.tak.below_of hb h.gB, (hb.block q h.qB).trans h.box, fun k a b c => (hb.block k a).trans (h.rest k a b c), Nat.le_trans h.size hb.size⟩

/-- 'p.Frames = ..' -/
theorem Mpk.push (h : Mpk w0 wB g q a0 n0 c0 bs cfg ch W r v p fs) {W' : World} (hb : Below wB.heap.size W W') {v' : Value} {fs' : List (List Nat)} (hf : Frs wB.heap.size W' v' fs') : Mpk w0 wB g q a0 n0 c0 bs cfg ch (W'.setCell ⟨q, 2, none⟩ v') r v' p fs' := by
  obtain ⟨h1, h2, h3, h4⟩ := h.grown hb
  have ho : Only q W' (W'.setCell ⟨q, 2, none⟩ v') := (Only.refl q W').set 2 _
  exact ⟨h1.other ho h.q0 h2.lt h.ne, four_set h2 2 _, hf.of_blocks (fun k hk hk2 => ho.block k hk2 (by have := h.qB; omega)), h.gB, h.qB, h.q0, h.ne, Nat.le_trans h4 ho.size, fun k a b c => (ho.block k (Nat.lt_of_lt_of_le a h4) c).trans (h3 k a b c)⟩

/-- 'p.Pad = ..' -/
theorem Mpk.setPad (h : Mpk w0 wB g q a0 n0 c0 bs cfg ch W r v p fs) (p' : Int) : Mpk w0 wB g q a0 n0 c0 bs cfg ch (W.setCell ⟨q, 3, none⟩ (.int .i64 p')) r v p' fs := by
  have ho : Only q W (W.setCell ⟨q, 3, none⟩ (.int .i64 p')) := (Only.refl q W).set 3 _
  exact ⟨h.tak.other ho h.q0 h.box.lt h.ne, four_set h.box 3 _, h.fr.of_blocks (fun k hk hk2 => ho.block k hk2 (by have := h.qB; omega)), h.gB, h.qB, h.q0, h.ne, Nat.le_trans h.size ho.size, fun k a b c => (ho.block k (Nat.lt_of_lt_of_le a h.size) c).trans (h.rest k a b c)⟩

/-- 't.b = ..': a part of what was left. -/
theorem Mpk.cut (h : Mpk w0 wB g q a0 n0 c0 bs cfg ch W r v p fs) {a a' : Option Addr} {n c n' c' : Nat} {r' : List Nat} (ht : Tk W g a n c false) (hs : Sub a0 n0 c0 bs a' n' c' r') : Mpk w0 wB g q a0 n0 c0 bs cfg ch (W.setCell ⟨g, 0, none⟩ (.slice a' n' c')) r' v p fs :=
  h.call ((Only.refl g W).set 0 _) ⟨a', n', c', ht.set0 a' n' c', hs⟩

/-- What the walk wants to know. -/
theorem Mpk.know (h : Mpk w0 wB g q a0 n0 c0 bs cfg ch W r v p fs) : ∃ a n c, n = r.length ∧ n ≤ c ∧ n ≤ 140737488351232 ∧ Tk W g a n c false ∧ Sub a0 n0 c0 bs a n c r ∧ Bs W a n c r ∧ g < W.heap.size ∧ q < W.heap.size := by
  obtain ⟨a, n, c, hn, ht, hs, _, hb⟩ := h.tak.now
  exact ⟨a, n, c, hn, hb.room, hb.size, ht, hs, hb, ht.lt, h.box.lt⟩

theorem Mpk.boxed (h : Mpk w0 wB g q a0 n0 c0 bs cfg ch W r v p fs) : W.cell? ⟨q, 0, none⟩ = some (.int .i64 cfg) ∧ W.cell? ⟨q, 2, none⟩ = some v ∧ W.cell? ⟨q, 3, none⟩ = some (.int .i64 p) ∧ W.frozen? ⟨q, 2, none⟩ = false ∧ W.frozen? ⟨q, 3, none⟩ = false := by
  obtain ⟨h0, _, h2, h3⟩ := h.box.cells
  have hh := h.box
  unfold Four at hh
  exact ⟨h0, h2, h3, by simp [World.frozen?, hh], by simp [World.frozen?, hh]⟩
theorem Mpk.taker (h : Mpk w0 wB g q a0 n0 c0 bs cfg ch W r v p fs) : W.cell? ⟨g, 1, none⟩ = some (.bool false) ∧ W.frozen? ⟨g, 1, none⟩ = false ∧ W.frozen? ⟨g, 0, none⟩ = false := by
  obtain ⟨a, n, c, _, _, _, ht, _⟩ := h.know
  exact ⟨ht.cells.2, ht.frozen.2, ht.frozen.1⟩
end

/-- What many answers. -/
def ManyR (w0 wB : World) (g q : Nat) (a0 : Option Addr) (n0 c0 : Nat) (bs : List Nat) (cfg ch : Int) (ms : Nat) (r : List Nat) (W : World) : Prop :=
  match manyN ms r with
  | none => Bd w0 wB g q a0 n0 c0 bs W
  | some (fs, p) => ∃ r' v, Mpk w0 wB g q a0 n0 c0 bs cfg ch W r' v (p : Nat) fs

theorem ManyR.no {w0 wB : World} {g q : Nat} {a0 : Option Addr} {n0 c0 : Nat} {bs : List Nat} {cfg ch : Int} {ms : Nat} {r : List Nat} {W : World} (h : manyN ms r = none) (hb : Bd w0 wB g q a0 n0 c0 bs W) : ManyR w0 wB g q a0 n0 c0 bs cfg ch ms r W := by
  unfold ManyR; rw [h]; exact hb
theorem ManyR.yes {w0 wB : World} {g q : Nat} {a0 : Option Addr} {n0 c0 : Nat} {bs : List Nat} {cfg ch : Int} {ms : Nat} {r : List Nat} {W : World} {fs : List (List Nat)} {p : Nat} (h : manyN ms r = some (fs, p)) {r' : List Nat} {v : Value} (hm : Mpk w0 wB g q a0 n0 c0 bs cfg ch W r' v (p : Nat) fs) : ManyR w0 wB g q a0 n0 c0 bs cfg ch ms r W := by
  unfold ManyR; rw [h]; exact ⟨r', v, hm⟩

/-- The region ends just so: several orders come to one. -/
def AtN (A : Act) (W : World) : Exit → Act → World → Prop
  | .normal, a, w => a = A ∧ w = W
  | _, _, _ => False
theorem AtN.goes {A : Act} {W : World} {Q : Exit → Act → World → Prop} (h : Q .normal A W) : ∀ (e : Exit) (a : Act) (w : World), AtN A W e a w → Q e a w := fun e a w h' => by
  cases e <;> first | (obtain ⟨rfl, rfl⟩ := h'; exact h) | exact (h' : False).elim

/-! ### Lengths, one by one -/
theorem lensN_step {k : Nat} {r r1 : List Nat} {x : Nat} (h : takeLen r = some (x, r1)) : lensN (k + 1) r = match lensN k r1 with | none => none | some (l, r'') => some (x :: l, r'') := by
  show (match takeLen r with | none => none | some (n, r') => match lensN k r' with | none => none | some (l, r'') => some (n :: l, r'')) = _
  rw [h]
theorem lensN_stop {k : Nat} {r : List Nat} (h : takeLen r = none) : lensN (k + 1) r = none := by
  show (match takeLen r with | none => none | some (n, r') => match lensN k r' with | none => none | some (l, r'') => some (n :: l, r'')) = _
  rw [h]

/-- In the midst of it: the lengths l are taken, r is left. -/
def MidLn (k : Nat) (bs l r : List Nat) : Prop := l.length ≤ k ∧ lensN k bs = match lensN (k - l.length) r with | none => none | some (l2, r'') => some (l ++ l2, r'')

theorem MidLn.start (k : Nat) (bs : List Nat) : MidLn k bs [] bs := by
  refine ⟨Nat.zero_le _, ?_⟩
  show _ = match lensN k bs with | none => none | some (l2, r'') => some ([] ++ l2, r'')
  cases lensN k bs with
  | none => rfl
  | some q => rfl
theorem MidLn.step {k : Nat} {bs l r r1 : List Nat} {x : Nat} (h : MidLn k bs l r) (hl : l.length < k) (ht : takeLen r = some (x, r1)) : MidLn k bs (l ++ [x]) r1 := by
  obtain ⟨_, h2⟩ := h
  refine ⟨by simp; omega, ?_⟩
  rw [h2, show k - l.length = (k - (l ++ [x]).length) + 1 by simp; omega, lensN_step ht]
  cases lensN (k - (l ++ [x]).length) r1 with
  | none => rfl
  | some q => obtain ⟨l2, r2⟩ := q; simp
theorem MidLn.stop {k : Nat} {bs l r : List Nat} (h : MidLn k bs l r) (hl : l.length < k) (ht : takeLen r = none) : lensN k bs = none := by
  obtain ⟨_, h2⟩ := h
  rw [h2, show k - l.length = (k - l.length - 1) + 1 by omega, lensN_stop ht]
theorem MidLn.all {k : Nat} {bs l r : List Nat} (h : MidLn k bs l r) (hl : l.length = k) : lensN k bs = some (l, r) := by
  obtain ⟨_, h2⟩ := h
  rw [h2, hl, Nat.sub_self]
  show some (l ++ [], r) = _
  rw [List.append_nil]

theorem takeLen_small {r r1 : List Nat} {x : Nat} (hb : ∀ y ∈ r, y < 256) (h : takeLen r = some (x, r1)) : x ≤ 1275 := by
  cases ht : take2 r with
  | none => rw [take2_none ht] at h; cases h
  | some q =>
    obtain ⟨n, r'⟩ := q
    rw [take2_some ht] at h
    split at h
    · cases h; exact take2_small hb ht
    · cases h

theorem wrap_nat (k : Nat) (h : k < 9223372036854775808) : IntKind.i64.wrap (k : Int) = (k : Int) := by rw [IntKind.wrap_i64]; omega
/-! ### Bits of a byte -/
theorem and_63 (v : Nat) : bits .and .i64 (v : Int) 63 = ((v % 64 : Nat) : Int) := by
  have h1 := and_mask_i64 (v : Int) 6 (by decide)
  simpa using h1
theorem and_3 (v : Nat) : bits .and .i64 (v : Int) 3 = ((v % 4 : Nat) : Int) := by
  have h1 := and_mask_i64 (v : Int) 2 (by decide)
  simpa using h1
theorem and_1 (v : Nat) : bits .and .i64 (v : Int) 1 = ((v % 2 : Nat) : Int) := by
  have h1 := and_mask_i64 (v : Int) 1 (by decide)
  simpa using h1

theorem LenR.elim {g : Nat} {a0 : Option Addr} {n0 c0 : Nat} {bs : List Nat} {bad : Bool} {r r' : List Nat} {n : Nat} {e : Ending} {w' : World} (h : LenR g a0 n0 c0 bs bad r e w') (ht : takeLen r = some (n, r')) : e = .returned (.int .i64 (n : Nat)) ∧ TkB w' g a0 n0 c0 bs bad r' := by
  unfold LenR at h; rw [ht] at h; exact h
theorem LenR.elim_no {g : Nat} {a0 : Option Addr} {n0 c0 : Nat} {bs : List Nat} {bad : Bool} {r : List Nat} {e : Ending} {w' : World} (h : LenR g a0 n0 c0 bs bad r e w') (ht : takeLen r = none) : ∃ (v : Nat) (r' : List Nat), e = .returned (.int .i64 (v : Nat)) ∧ TkB w' g a0 n0 c0 bs true r' ∧ v ≤ 2000 := by
  unfold LenR at h; rw [ht] at h; exact h

/-! ### Plain: the ways of code 3 -/
theorem manyN_plain {ms c m : Nat} {r : List Nat} {T : Bool} (hm : c % 64 = m) (h0 : ¬ m = 0) (hl : ¬ 120 < m * ms) (hp : ¬ c / 64 % 2 = 1) (hT : decide (c / 128 % 2 = 1) = T) : manyN ms (c :: r) = (bodyN m T r).map fun fs => (fs, 0) := by
  subst hm; subst hT
  show (if _ then _ else _) = _
  rw [if_neg (by omega), if_neg hp]
theorem manyN_padded {ms c m : Nat} {r r1 : List Nat} {p : Nat} {T : Bool} (hm : c % 64 = m) (h0 : ¬ m = 0) (hl : ¬ 120 < m * ms) (hp : c / 64 % 2 = 1) (hT : decide (c / 128 % 2 = 1) = T) (h : padN r 0 = some (p, r1)) (hle : p ≤ r1.length) : manyN ms (c :: r) = (bodyN m T (r1.take (r1.length - p))).map fun fs => (fs, p) := by
  subst hm; subst hT
  show (if _ then _ else _) = _
  rw [if_neg (by omega), if_pos hp, h]
  simp only
  rw [if_pos hle]
theorem manyN_pad_no {ms c m : Nat} {r : List Nat} (hm : c % 64 = m) (h0 : ¬ m = 0) (hl : ¬ 120 < m * ms) (hp : c / 64 % 2 = 1) (h : padN r 0 = none) : manyN ms (c :: r) = none := by
  subst hm
  show (if _ then _ else _) = _
  rw [if_neg (by omega), if_pos hp, h]
theorem manyN_pad_great {ms c m : Nat} {r r1 : List Nat} {p : Nat} (hm : c % 64 = m) (h0 : ¬ m = 0) (hl : ¬ 120 < m * ms) (hp : c / 64 % 2 = 1) (h : padN r 0 = some (p, r1)) (hle : ¬ p ≤ r1.length) : manyN ms (c :: r) = none := by
  subst hm
  show (if _ then _ else _) = _
  rw [if_neg (by omega), if_pos hp, h]
  simp only
  rw [if_neg hle]

theorem evenN_step {k j m : Nat} (h : j < m) (r : List Nat) : evenN (m - j) k r = r.take k :: evenN (m - (j + 1)) k (r.drop k) := by
  rw [show m - j = (m - (j + 1)) + 1 by omega]; rfl

theorem Mpk.boxedA {w0 wB W : World} {g q : Nat} {a0 : Option Addr} {n0 c0 : Nat} {bs : List Nat} {cfg ch : Int} {r : List Nat} {v : Value} {p : Int} {fs : List (List Nat)} (h : Mpk w0 wB g q a0 n0 c0 bs cfg ch W r v p fs) (o : Obj) : (W.alloc o).cell? ⟨q, 2, none⟩ = some v := (h.alloc o).boxed.2.1
theorem Mpk.grownBox {w0 wB W : World} {g q : Nat} {a0 : Option Addr} {n0 c0 : Nat} {bs : List Nat} {cfg ch : Int} {r : List Nat} {v : Value} {p : Int} {fs : List (List Nat)} (h : Mpk w0 wB g q a0 n0 c0 bs cfg ch W r v p fs) {W' : World} (hb : Below wB.heap.size W W') : W'.cell? ⟨q, 2, none⟩ = some v ∧ W'.frozen? ⟨q, 2, none⟩ = false := by
  have h2 := (h.grown hb).2.1
  obtain ⟨_, _, k2, _⟩ := h2.cells
  unfold Four at h2
  exact ⟨k2, by simp [World.frozen?, h2]⟩
theorem Mpk.few {w0 wB W : World} {g q : Nat} {a0 : Option Addr} {n0 c0 : Nat} {bs : List Nat} {cfg ch : Int} {r : List Nat} {v : Value} {p : Int} {fs : List (List Nat)} (h : Mpk w0 wB g q a0 n0 c0 bs cfg ch W r v p fs) : r.length ≤ 140737488351232 := by
  obtain ⟨_, n, _, hn, _, hs, _⟩ := h.know
  omega
theorem Mpk.small {w0 wB W : World} {g q : Nat} {a0 : Option Addr} {n0 c0 : Nat} {bs : List Nat} {cfg ch : Int} {r : List Nat} {v : Value} {p : Int} {fs : List (List Nat)} (h : Mpk w0 wB g q a0 n0 c0 bs cfg ch W r v p fs) : ∀ y ∈ r, y < 256 := by
  obtain ⟨_, _, _, _, _, _, _, _, hb, _⟩ := h.know
  exact hb.row.small
/-- New bytes lie in no block of the frames' list. -/
theorem Mpk.fresh {w0 wB W : World} {g q : Nat} {a0 : Option Addr} {n0 c0 : Nat} {bs : List Nat} {cfg ch : Int} {r : List Nat} {v : Value} {p : Int} {fs : List (List Nat)} (h : Mpk w0 wB g q a0 n0 c0 bs cfg ch W r v p fs) {w3 : World} {u : Value} {n : Nat} {cs : List Nat} (ho : w3.ownsRow W.heap.size 5 1 u n (bvals cs)) (k : Nat) (hk : u.ownBlock = some k) : v.ownBlock ≠ some k := fun hv => by
  obtain ⟨us, h1, _⟩ := h.fr.own
  have h2 := ownBlock_lt h1 hv
  have h3 := (ho.lt k hk).1
  omega
/-- What lies in a block of another kind is not the frames' list. -/
theorem own_apart {w : World} {B B' : Nat} {e e' : TypeId} {z z' : Nat} {v v' : Value} {n n' : Nat} {xs xs' : List Value} (h : w.ownsRow B e z v n xs) (h' : w.ownsRow B' e' z' v' n' xs') (hne : e ≠ e') (k : Nat) (hk : v.ownBlock = some k) : v'.ownBlock ≠ some k := fun hk' => by
  rcases h.2 with ⟨h1, _⟩ | ⟨g, cap, cur, h1, _, hh, _⟩
  · rw [h1] at hk; cases hk
  rcases h'.2 with ⟨h2, _⟩ | ⟨g', cap', cur', h2, _, hh', _⟩
  · rw [h2] at hk'; cases hk'
  rw [h1] at hk
  rw [h2] at hk'
  cases hk; cases hk'
  rw [hh] at hh'
  cases hh'
  exact hne rfl

theorem Bd.below {w0 wB W W' : World} {g q : Nat} {a0 : Option Addr} {n0 c0 : Nat} {bs : List Nat} (h : Bd w0 wB g q a0 n0 c0 bs W) (hb : Below wB.heap.size W W') (hg : g < wB.heap.size) : Bd w0 wB g q a0 n0 c0 bs W' := by
  obtain ⟨r, ht⟩ := h.tak
  exact ⟨⟨r, ht.below_of hb hg⟩, Nat.le_trans h.size hb.size, fun k a b c => (hb.block k a).trans (h.rest k a b c)⟩
theorem Mpk.nil_below {w0 wB W W' : World} {g q : Nat} {a0 : Option Addr} {n0 c0 : Nat} {bs : List Nat} {cfg ch : Int} {r : List Nat} {p : Int} (h : Mpk w0 wB g q a0 n0 c0 bs cfg ch W r (.slice none 0 0) p []) (hb : Below wB.heap.size W W') : Mpk w0 wB g q a0 n0 c0 bs cfg ch W' r (.slice none 0 0) p [] := by
  obtain ⟨h1, h2, h3, h4⟩ := h.grown hb
  exact ⟨h1, h2, Frs.nil _ _, h.gB, h.qB, h.q0, h.ne, h4, h3⟩
theorem own_only {w w' : World} {g B : Nat} {e : TypeId} {z : Nat} {v : Value} {n : Nat} {xs : List Value} (h : w.ownsRow B e z v n xs) (ho : Only g w w') (hg : g < B) : w'.ownsRow B e z v n xs :=
  ownsRow_of_block h fun k hk => ho.block k (ownBlock_lt h hk) (by have := (h.lt k hk).1; omega)
theorem own_grown {w w' : World} {B : Nat} {u : Option Nat} {e : TypeId} {z : Nat} {v : Value} {n : Nat} {xs : List Value} (h : w.ownsRow B e z v n xs) (hg : w.grownBy w' u) (hne : ∀ k, v.ownBlock = some k → u ≠ some k) : w'.ownsRow B e z v n xs :=
  ownsRow_of_block h fun k hk => hg.block k (ownBlock_lt h hk) (fun e => hne k hk e.symm)
theorem own_set {w : World} {B q : Nat} (i : Nat) (x : Value) {e : TypeId} {z : Nat} {v : Value} {n : Nat} {xs : List Value} (h : w.ownsRow B e z v n xs) (hq : q < B) : (w.setCell ⟨q, i, none⟩ x).ownsRow B e z v n xs :=
  own_only h ((Only.refl q w).set i x) hq
/-- The list of lengths stays, where the frames' list has grown. -/
theorem ints_stay {w w' : World} {B B' q : Nat} {v : Value} {fs : List (List Nat)} (hf : Frs B w v fs) {u : Value} {n : Nat} {xs : List Value} (h : w.ownsRow B' 3 1 u n xs) (hg : w.grownBy w' v.ownBlock) (hq : q < B') (i : Nat) (x : Value) : (w'.setCell ⟨q, i, none⟩ x).ownsRow B' 3 1 u n xs := by
  obtain ⟨us, h1, _⟩ := hf.own
  exact own_set i x (own_grown h hg (own_apart h h1 (by decide))) hq

theorem bodyN_told {m : Nat} {r : List Nat} {q : Option (List Nat × List Nat)} : lensN (m - 1) r = q → bodyN m true r = match q with | none => none | some (l, r') => if sumN l ≤ r'.length then some (cutN l r') else none := by
  intro h
  subst h
  unfold bodyN
  rw [if_pos rfl]
  cases lensN (m - 1) r <;> rfl
theorem cutN_step {l r : List Nat} {j n : Nat} (hn : l.length = n) (h : j < n) : cutN (l.drop j) r = r.take (l[j]?.getD 0) :: cutN (l.drop (j + 1)) (r.drop (l[j]?.getD 0)) := by
  rw [drop_at hn h]; rfl

theorem Bd.setQ {w0 wB W : World} {g q : Nat} {a0 : Option Addr} {n0 c0 : Nat} {bs : List Nat} (h : Bd w0 wB g q a0 n0 c0 bs W) (hne : g ≠ q) (hq0 : w0.heap.size ≤ q) (hqB : q < wB.heap.size) (i : Nat) (u : Value) : Bd w0 wB g q a0 n0 c0 bs (W.setCell ⟨q, i, none⟩ u) := by
  obtain ⟨r, ht⟩ := h.tak
  have ho : Only q W (W.setCell ⟨q, i, none⟩ u) := (Only.refl q W).set i u
  exact ⟨⟨r, ht.other ho hq0 (Nat.lt_of_lt_of_le hqB h.size) hne⟩, Nat.le_trans h.size ho.size, fun k a b c => (ho.block k (Nat.lt_of_lt_of_le a h.size) c).trans (h.rest k a b c)⟩
theorem padN_255 (r : List Nat) (p : Nat) : padN (255 :: r) p = padN r (p + 254) := if_pos rfl
theorem padN_low {x : Nat} (hx : ¬ x = 255) (r : List Nat) (p : Nat) : padN (x :: r) p = some (p + x, r) := if_neg hx

end Go.Proofs.YtgiellpepnbpcaaDoor
