/- What the document's own Parse comes to: what it answers; some ways. (Laid by wip/mkrparse.py.) -/
import Derived.Test.YtgiellpepnbpcaaDoorTocZf
namespace Go.Proofs.YtgiellpepnbpcaaDoor
open Go.RowKit

def RAns (B : Nat) (w : World) (bs : List Nat) (e : Ending) : Prop :=
  match parseN bs with
  | none => e = .returned (.tuple #[.agg #[.int .i64 0, .int .i64 0, .slice none 0 0, .int .i64 0], .bool false])
  | some p => ∃ v, e = .returned (.tuple #[PkV p v, .bool true]) ∧ Frs B w v p.frames

theorem RAns.no {B : Nat} {w : World} {bs : List Nat} (h : parseN bs = none) : RAns B w bs (.returned (.tuple #[.agg #[.int .i64 0, .int .i64 0, .slice none 0 0, .int .i64 0], .bool false])) := by
  unfold RAns; rw [h]
theorem RAns.yes {B : Nat} {w : World} {bs : List Nat} {p : Pk} (h : parseN bs = some p) {v : Value} (hv : Frs B w v p.frames) {c ch pad : Int} (h1 : c = (p.config : Nat)) (h2 : ch = (p.ch : Nat)) (h3 : pad = (p.pad : Nat)) : RAns B w bs (.returned (.tuple #[.agg #[.int .i64 c, .int .i64 ch, v, .int .i64 pad], .bool true])) := by
  unfold RAns; rw [h, h1, h2, h3]; exact ⟨v, rfl, hv⟩
theorem RAns.elim_no {B : Nat} {w : World} {bs : List Nat} {e : Ending} (h : RAns B w bs e) (hp : parseN bs = none) : e = .returned (.tuple #[.agg #[.int .i64 0, .int .i64 0, .slice none 0 0, .int .i64 0], .bool false]) := by
  unfold RAns at h; rw [hp] at h; exact h
theorem RAns.elim {B : Nat} {w : World} {bs : List Nat} {p : Pk} {e : Ending} (h : RAns B w bs e) (hp : parseN bs = some p) : ∃ v, e = .returned (.tuple #[PkV p v, .bool true]) ∧ Frs B w v p.frames := by
  unfold RAns at h; rw [hp] at h; exact h

theorem rparse_ret {v0 v1 v2 v3 : Value} {a : Act} {w : World} {g : Nat} {t : TypeId} {R : Ending → World → Prop} (h : Four w g t v0 v1 v2 v3) (h2 : a.tmps.getD 2 undef = .pointer (some ⟨g, 0, none⟩)) {x : Value} (h3 : a.tmps.getD 3 undef = x) (hd : a.defers = []) (hR : R (.returned (.tuple #[.agg #[v0, v1, v2, v3], x])) w) : bodyPost Tryd.prog Tryd.f15 R .ret a w := by
  subst h3
  exact bodyPost_ret (results_cell_tmp rfl a.tmps w g t _ _ _ h2 h Tryd.underlying39 rfl (by kernel_rfl)) hd hR

theorem tak_start {w w' : World} {g : Nat} {a : Option Addr} {n cap : Nat} {bs : List Nat} (hb : Bs w a n cap bs) (hB : Below w.heap.size w w') (hg : w.heap.size ≤ g) (ht : Tk w' g a n cap false) : Tak w w' g a n cap bs false bs :=
  ⟨hb, hB, hg, a, n, cap, ht, Sub.refl _ _ _ _⟩

section
variable {w0 wB W : World} {g q : Nat} {a0 : Option Addr} {n0 c0 : Nat} {bs : List Nat} {cfg ch : Int} {r : List Nat} {v : Value} {p : Int} {fs : List (List Nat)}
theorem Mpk.boxed1 (h : Mpk w0 wB g q a0 n0 c0 bs cfg ch W r v p fs) : W.cell? ⟨q, 1, none⟩ = some (.int .i64 ch) := h.box.cells.2.1
theorem Mpk.frozenA (h : Mpk w0 wB g q a0 n0 c0 bs cfg ch W r v p fs) (o : Obj) : (W.alloc o).frozen? ⟨q, 2, none⟩ = false := (h.alloc o).boxed.2.2.2.1
/-- What lies elsewhere is as it was. -/
theorem Mpk.four (h : Mpk w0 wB g q a0 n0 c0 bs cfg ch W r v p fs) {k : Nat} {t : TypeId} {v0 v1 v2 v3 : Value} (hk : Four wB k t v0 v1 v2 v3) (h1 : k ≠ g) (h2 : k ≠ q) : Four W k t v0 v1 v2 v3 := (h.rest k hk.lt h1 h2).trans hk
theorem Bd.four (h : Bd w0 wB g q a0 n0 c0 bs W) {k : Nat} {t : TypeId} {v0 v1 v2 v3 : Value} (hk : Four wB k t v0 v1 v2 v3) (h1 : k ≠ g) (h2 : k ≠ q) : Four W k t v0 v1 v2 v3 := (h.rest k hk.lt h1 h2).trans hk
theorem Mpk.below (h : Mpk w0 wB g q a0 n0 c0 bs cfg ch W r v p fs) : Below w0.heap.size w0 W := h.tak.below
theorem Bd.below0 (h : Bd w0 wB g q a0 n0 c0 bs W) : Below w0.heap.size w0 W := by
  obtain ⟨_, ht⟩ := h.tak
  exact ht.below
/-- The frames, behind the answer's four stores. -/
theorem Mpk.frs4 (h : Mpk w0 wB g q a0 n0 c0 bs cfg ch W r v p fs) {R : Nat} (hR : R < wB.heap.size) (h0 : w0.heap.size ≤ wB.heap.size) (u0 u1 u2 u3 : Value) : Frs w0.heap.size ((((W.setCell ⟨R, 0, none⟩ u0).setCell ⟨R, 1, none⟩ u1).setCell ⟨R, 2, none⟩ u2).setCell ⟨R, 3, none⟩ u3) v fs := by
  refine (h.fr.of_blocks fun k hk _ => ?_).mono h0
  rw [Below.heap_setCell _ _ _ _ (by show k ≠ R; omega), Below.heap_setCell _ _ _ _ (by show k ≠ R; omega), Below.heap_setCell _ _ _ _ (by show k ≠ R; omega), Below.heap_setCell _ _ _ _ (by show k ≠ R; omega)]
end

/-- One frame, laid down as a list of its own. -/
theorem frs_one {B : Nat} {w : World} {a : Option Addr} {n c : Nat} {f : List Nat} (h : w.ownsRow B 5 1 (.slice a n c) n (bvals f)) (hf : f.length = n) (hs : ∀ x ∈ f, x < 256) (hl : n ≤ 140737488351232) (hB : B ≤ w.heap.size) :
    Frs B (w.alloc (.cells #[.slice a n c] 29)) (.slice (some ⟨w.heap.size, 0, none⟩) 1 1) [f] := by
  refine ⟨⟨[.slice a n c], ⟨rfl, .inr ⟨w.heap.size, 1, #[.slice a n c], rfl, hB, heap_alloc_new w _, Nat.le_refl _, by decide, rfl, rfl⟩⟩, fun i f' hf' => ?_⟩, ?_, ?_⟩
  · match i, hf' with
    | 0, hf' =>
      obtain rfl : f = f' := by simpa using hf'
      refine ⟨_, rfl, ob_cast (h.alloc _) rfl hf.symm, fun k hk hk' => ?_⟩
      obtain rfl : w.heap.size = k := by simpa [Value.ownBlock] using hk
      have := ownBlock_lt h hk'
      omega
    | i + 1, hf' => simp at hf'
  · intro f' hf'
    obtain rfl : f' = f := by simpa using hf'
    exact hs
  · intro f' hf'
    obtain rfl : f' = f := by simpa using hf'
    omega

/-! ### Plain -/
theorem parse_none_of {h : Nat} {r : List Nat} (hk : ¬ 11 < h / 8) (hf : framesN h r = none) : parseN (h :: r) = none := by
  show (if _ then _ else _) = _
  rw [if_neg hk, hf]
theorem parse_short_of {h : Nat} {r : List Nat} {fs : List (List Nat)} {p : Nat} (hk : ¬ 11 < h / 8) (hf : framesN h r = some (fs, p)) (hs : shortN fs = false) : parseN (h :: r) = none := by
  show (if _ then _ else _) = _
  rw [if_neg hk, hf]
  simp only
  rw [hs]
  rfl
theorem parse_some_of {h kc d : Nat} {r : List Nat} {fs : List (List Nat)} {p : Nat} (hk : ¬ 11 < h / 8) (h1 : h / 8 = kc) (h2 : h / 4 % 2 = d) (hf : framesN h r = some (fs, p)) (hs : shortN fs = true) : parseN (h :: r) = some ⟨kc, 1 + d, fs, p⟩ := by
  show (if _ then _ else _) = _
  rw [if_neg hk, hf]
  simp only
  rw [hs, h1, h2]
  rfl
theorem shortN_not {fs : List (List Nat)} {j : Nat} (hj : j < fs.length) (hx : 1275 < (fs[j]?.getD []).length) : shortN fs = false := by
  rw [Bool.eq_false_iff]
  intro ht
  exact short_not hj hx fun f hf => of_decide_eq_true (List.all_eq_true.1 ht f hf)

theorem four_frozen {w : World} {g : Nat} {t : TypeId} {v0 v1 v2 v3 : Value} (h : Four w g t v0 v1 v2 v3) : w.frozen? ⟨g, 0, none⟩ = false ∧ w.frozen? ⟨g, 1, none⟩ = false ∧ w.frozen? ⟨g, 2, none⟩ = false ∧ w.frozen? ⟨g, 3, none⟩ = false := by
  unfold Four at h
  refine ⟨?_, ?_, ?_, ?_⟩ <;> simp [World.frozen?, h]

section
variable {w0 wB : World} {g q : Nat} {a0 : Option Addr} {n0 c0 : Nat} {bs : List Nat} {cfg ch : Int} {ms : Nat} {r : List Nat} {W : World}
theorem ManyR.elim_no (h : ManyR w0 wB g q a0 n0 c0 bs cfg ch ms r W) (hN : manyN ms r = none) : Bd w0 wB g q a0 n0 c0 bs W := by
  unfold ManyR at h; rw [hN] at h; exact h
theorem ManyR.elim (h : ManyR w0 wB g q a0 n0 c0 bs cfg ch ms r W) {fs : List (List Nat)} {p : Nat} (hN : manyN ms r = some (fs, p)) : ∃ r' v, Mpk w0 wB g q a0 n0 c0 bs cfg ch W r' v (p : Nat) fs := by
  unfold ManyR at h; rw [hN] at h; exact h
end

set_option maxRecDepth 100000 in
set_option maxHeartbeats 2000000 in
theorem rparse_nil (a : Option Addr) (n cap : Nat) (w : World) (hb : Bs w a n cap []) :
    Calls Tryd.prog 15 #[.slice a n cap] w fun e w' => RAns w.heap.size w' [] e ∧ Below w.heap.size w w' := by
  have HB : Hid (Bs w a n cap []) := hb
  have hA0 : bits .and .i64 0 1 = 0 := and_1 0
  have y0 : Hid True := trivial
  clear hb
  go_enter Tryd.func15, Tryd.ntmps15
  go_wp2_with (first
    | (go_at_call 32; clear y0; go_loud (refine (one_no (w.heap.size + 1) a n cap [] false w _ (tak_start HB.out (((Below.refl _ _).alloc (Nat.le_refl _) _).alloc (by simp) _) (by omega) (by rw [← World.size_alloc]; exact heap_alloc_new _ _))).mono ?_; rintro e w1 ⟨rfl, ht1, ho1⟩; have hsz1 : w.heap.size + 2 ≤ w1.heap.size := (by have := ho1.size; simp at this; omega); have HRE : Hid (Four (w1.alloc (.cells #[.int .i64 0, .int .i64 1, .slice none 0 0, .int .i64 0] 39)) w.heap.size 39 (.int .i64 0) (.int .i64 0) (.slice none 0 0) (.int .i64 0)) := (ho1.four ((four_new w _ _ _ _ _).alloc _) (by omega)).alloc _; have hba : Below w1.heap.size w1 (w1.alloc (.cells #[.int .i64 0, .int .i64 1, .slice none 0 0, .int .i64 0] 39)) := (Below.refl _ _).alloc (Nat.le_refl _) _; have HBD : Hid (Bd w (w1.alloc (.cells #[.int .i64 0, .int .i64 1, .slice none 0 0, .int .i64 0] 39)) (w.heap.size + 1) w1.heap.size a n cap [] (w1.alloc (.cells #[.int .i64 0, .int .i64 1, .slice none 0 0, .int .i64 0] 39))) := ⟨⟨[], ht1.keep hba⟩, Nat.le_refl _, fun k _ _ _ => rfl⟩; have HZ : Hid (w.heap.size < ((w1.alloc (.cells #[.int .i64 0, .int .i64 1, .slice none 0 0, .int .i64 0] 39))).heap.size ∧ w.heap.size ≠ w.heap.size + 1 ∧ w.heap.size ≠ w1.heap.size ∧ w.heap.size ≤ ((w1.alloc (.cells #[.int .i64 0, .int .i64 1, .slice none 0 0, .int .i64 0] 39))).heap.size) := ⟨by simp; omega, by omega, by omega, by simp; omega⟩; have HRB9 := HBD.out.four HRE.out HZ.out.2.1 HZ.out.2.2.1; obtain ⟨z0, z1, z2, z3⟩ := HRB9.cells; obtain ⟨g0, g1, g2, g3⟩ := four_frozen HRB9; obtain ⟨s1, s2⟩ := HBD.out.cells; clear HRB9; clear ht1 ho1 hba)))
  have HR9 := HBD.out.four HRE.out HZ.out.2.1 HZ.out.2.2.1
  refine rparse_ret (g := w.heap.size) (t := 39) (v0 := .int .i64 0) (v1 := .int .i64 0) (v2 := .slice none 0 0) (v3 := .int .i64 0) (x := .bool false) ?_ rfl rfl rfl ⟨.no rfl, ?_⟩
  · with_reducible exact HR9.set _ _ _ _
  · with_reducible exact below_set4 HBD.out.below0 _ _ _ _

set_option maxRecDepth 100000 in
set_option maxHeartbeats 2000000 in
theorem rparse_config (a : Option Addr) (n cap h : Nat) (r : List Nat) (w : World) (hb : Bs w a n cap (h :: r)) (kc d : Nat) (hkE : h / 8 = kc) (hdE : h / 4 % 2 = d) (hk : 11 < kc) :
    Calls Tryd.prog 15 #[.slice a n cap] w fun e w' => RAns w.heap.size w' (h :: r) e ∧ Below w.heap.size w w' := by
  have HB : Hid (Bs w a n cap (h :: r)) := hb
  have hh : h < 256 := hb.row.small h (by simp)
  have b0 : (0 : Int) ≤ h := by omega
  have b1 : h ≤ 255 := by omega
  have h8 : (h : Int) / 8 = (kc : Nat) := by omega
  have h42 : (h : Int) / 4 % 2 = (d : Nat) := by omega
  have hA1 : bits .and .i64 ((h : Int) / 4) 1 = (d : Nat) := by rw [← hdE]; exact and_1 (h / 4)
  have hd1 : d ≤ 1 := by omega
  have hkc : kc ≤ 31 := by omega
  have HN : Hid (parseN (h :: r) = none) := if_pos (by omega)
  have hk11 : decide (11 < (kc : Int)) = true := decide_eq_true (by omega)
  clear hb hh hkE hdE hk
  have y0 : Hid True := trivial
  go_enter Tryd.func15, Tryd.ntmps15
  go_wp2_with (first
    | (go_at_call 32; clear y0; go_loud (refine (one_yes (w.heap.size + 1) a n cap (h :: r) h r w _ (tak_start HB.out (((Below.refl _ _).alloc (Nat.le_refl _) _).alloc (by simp) _) (by omega) (by rw [← World.size_alloc]; exact heap_alloc_new _ _))).mono ?_; rintro e w1 ⟨rfl, ht1, ho1⟩; have hsz1 : w.heap.size + 2 ≤ w1.heap.size := (by have := ho1.size; simp at this; omega); have HRE : Hid (Four (w1.alloc (.cells #[.int .i64 (kc : Nat), .int .i64 (1 + (d : Nat)), .slice none 0 0, .int .i64 0] 39)) w.heap.size 39 (.int .i64 0) (.int .i64 0) (.slice none 0 0) (.int .i64 0)) := (ho1.four ((four_new w _ _ _ _ _).alloc _) (by omega)).alloc _; obtain ⟨z0, z1, z2, z3⟩ := HRE.out.cells; obtain ⟨g0, g1, g2, g3⟩ := four_frozen HRE.out; have hba : Below w1.heap.size w1 (w1.alloc (.cells #[.int .i64 (kc : Nat), .int .i64 (1 + (d : Nat)), .slice none 0 0, .int .i64 0] 39)) := (Below.refl _ _).alloc (Nat.le_refl _) _; have HME : Hid (Mpk w (w1.alloc (.cells #[.int .i64 (kc : Nat), .int .i64 (1 + (d : Nat)), .slice none 0 0, .int .i64 0] 39)) (w.heap.size + 1) w1.heap.size a n cap (h :: r) (kc : Nat) (1 + (d : Nat)) (w1.alloc (.cells #[.int .i64 (kc : Nat), .int .i64 (1 + (d : Nat)), .slice none 0 0, .int .i64 0] 39)) r (.slice none 0 0) 0 []) := ⟨ht1.keep hba, heap_alloc_new w1 _, Frs.nil _ _, by simp; omega, by simp, by omega, by omega, Nat.le_refl _, fun k _ _ _ => rfl⟩; have HZ : Hid (w.heap.size < ((w1.alloc (.cells #[.int .i64 (kc : Nat), .int .i64 (1 + (d : Nat)), .slice none 0 0, .int .i64 0] 39))).heap.size ∧ w.heap.size ≠ w.heap.size + 1 ∧ w.heap.size ≠ w1.heap.size ∧ w.heap.size ≤ ((w1.alloc (.cells #[.int .i64 (kc : Nat), .int .i64 (1 + (d : Nat)), .slice none 0 0, .int .i64 0] 39))).heap.size) := ⟨by simp; omega, by omega, by omega, by simp; omega⟩; obtain ⟨x0, x2, x3, e2, e3⟩ := HME.out.boxed; have x1 := HME.out.boxed1; obtain ⟨t1, f1, f0⟩ := HME.out.taker; clear ht1 ho1 hba)))
  have HR9 := HME.out.four HRE.out HZ.out.2.1 HZ.out.2.2.1
  refine rparse_ret (g := w.heap.size) (t := 39) (v0 := .int .i64 0) (v1 := .int .i64 0) (v2 := .slice none 0 0) (v3 := .int .i64 0) (x := .bool false) ?_ rfl rfl rfl ⟨.no HN.out, ?_⟩
  · with_reducible exact HR9.set _ _ _ _
  · with_reducible exact below_set4 HME.out.below _ _ _ _

end Go.Proofs.YtgiellpepnbpcaaDoor
