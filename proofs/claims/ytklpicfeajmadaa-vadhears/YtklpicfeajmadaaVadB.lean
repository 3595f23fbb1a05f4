/- The document's own meter behind a pointer. -/
import Derived.Test.YtklpicfeajmadaaVadA
import Derived.Deep.OwnRows
namespace Go.Proofs.Ytklpicfeajmadaa
open Go.RowKit
namespace Vad

/-- Nothing has turned but the block p, and nothing is new. -/
structure But (p : Nat) (w w' : World) : Prop where
  os : w'.os = w.os
  tape : w'.tape = w.tape
  output : w'.output = w.output
  size : w'.heap.size = w.heap.size
  block : ∀ k, k ≠ p → w'.heap[k]? = w.heap[k]?
theorem But.refl (p : Nat) (w : World) : But p w w := ⟨rfl, rfl, rfl, rfl, fun _ _ => rfl⟩
theorem But.trans {p : Nat} {a b c : World} (h : But p a b) (k : But p b c) : But p a c :=
  ⟨k.os.trans h.os, k.tape.trans h.tape, k.output.trans h.output, k.size.trans h.size, fun i hi => (k.block i hi).trans (h.block i hi)⟩
theorem But.drew {p : Nat} {a w : World} (h : But p a w) : But p a w.drew := ⟨h.os, h.tape, h.output, h.size, h.block⟩
theorem But.drewN {p : Nat} {a w : World} (h : But p a w) (n : Nat) : But p a (w.drewN n) := ⟨h.os, h.tape, h.output, h.size, h.block⟩
theorem But.set {p : Nat} {a w : World} (h : But p a w) (i : Nat) (v : Value) : But p a (w.setCell ⟨p, i, none⟩ v) :=
  h.trans ⟨rfl, rfl, rfl, by simp [World.setCell], fun k hk => Below.heap_setCell _ _ _ _ hk⟩
theorem But.below {p B : Nat} {w w' : World} (h : But p w w') (hB : B ≤ p) : Below B w w' :=
  ⟨h.os, h.tape, h.output, by rw [h.size]; exact Nat.le_refl _, fun k hk => h.block k (by omega)⟩

/-- At p lies the document's meter. -/
def rmF (m : MeterI) : Nat → Value
  | 0 => .int .i64 m.floor
  | _ => .int .i64 m.count
def RMt (p : Nat) (m : MeterI) (w : World) : Prop := w.rowIs p 31 2 (rmF m)
section
variable {p : Nat} {m : MeterI} {w w' : World}
theorem RMt.lt (h : RMt p m w) : p < w.heap.size := World.rowIs.lt h
theorem RMt.drew (h : RMt p m w) : RMt p m w.drew := h
theorem RMt.drewN (h : RMt p m w) (n : Nat) : RMt p m (w.drewN n) := h
theorem RMt.of_block (h : RMt p m w) (hp : w'.heap[p]? = w.heap[p]?) : RMt p m w' := World.rowIs.of_block h hp
theorem RMt.keep (h : RMt p m w) (hb : Below w.heap.size w w') : RMt p m w' := h.of_block (hb.block p h.lt)
theorem RMt.but {q : Nat} (h : RMt p m w) (hb : But q w w') (hp : p ≠ q) : RMt p m w' := h.of_block (hb.block p hp)
theorem lt2 {q : Nat → Prop} (h0 : q 0) (h1 : q 1) : ∀ j, j < 2 → q j
  | 0, _ => h0 | 1, _ => h1 | n + 2, h => absurd h (by omega)
theorem RMt.setFloor (h : RMt p m w) (x : Int) {v : Int} (hv : v = x) : RMt p ⟨x, m.count⟩ (w.setCell ⟨p, 0, none⟩ (.int .i64 v)) := by
  subst hv
  exact (World.rowIs.set h 0 _).congr (lt2 rfl rfl)
theorem RMt.setCount (h : RMt p m w) (x : Int) {v : Int} (hv : v = x) : RMt p ⟨m.floor, x⟩ (w.setCell ⟨p, 1, none⟩ (.int .i64 v)) := by
  subst hv
  exact (World.rowIs.set h 1 _).congr (lt2 rfl rfl)
theorem RMt.fields (h : RMt p m w) : w.cell? ⟨p, 0, none⟩ = some (.int .i64 m.floor) ∧ w.cell? ⟨p, 1, none⟩ = some (.int .i64 m.count) ∧ ∀ i, w.frozen? ⟨p, i, none⟩ = false :=
  ⟨World.rowIs.cell h (i := 0) (by decide), World.rowIs.cell h (i := 1) (by decide), World.rowIs.frozen h⟩
end

set_option maxHeartbeats 4000000 in
theorem rStep_any (p : Nat) (m : MeterI) (a : Option Addr) (n cap : Nat) (zs : List Int) (w : World) (hM : RMt p m w) (hok : m.Ok) (hz : Zs w a n zs) (hn : n ≤ cap) (hm : cap ≤ maxLen) :
    Calls Try.prog 12 #[.pointer (some ⟨p, 0, none⟩), .slice a n cap] w fun e w' => e = .returned (.bool (m.told (levelI zs))) ∧ RMt p (m.next (levelI zs)) w' ∧ But p w w' := by
  have HL : Hid (Calls Try.prog 11 #[.slice a n cap] w fun e w' => e = .returned (.int .i64 (levelI zs)) ∧ w' = w) := rLevel_any a n cap zs w hz hn hm
  have hvb := levelI_in zs
  generalize levelI zs = v at *
  obtain ⟨c0, c1, fz⟩ := hM.fields
  have f0 := fz 0
  have f1 := fz 1
  have HM : Hid (RMt p m w) := hM
  obtain ⟨fl, ct⟩ := m
  obtain ⟨k1, k2, k3, k4⟩ := hok
  simp only at c0 c1 k1 k2 k3 k4
  unfold MeterI.told MeterI.next MeterI.heard
  simp only
  clear hM hz fz hn hm
  by_cases h1 : fl < 0 ∨ v < fl + 8
  · rw [if_pos h1, if_neg (show ¬ v + 512 < v by omega)]
    by_cases h4 : 0 < ct
    · rw [if_pos h4, decide_eq_true (show v + 512 < v ∨ 0 < ct from .inr h4)]
      go_enter Try.func12, Try.ntmps12
      go_wp2_with (go_at_call 11; refine HL.out.mono ?_; rintro e w' ⟨rfl, rfl⟩)
      all_goals first | (exfalso; omega) | (go_ret; exact ⟨rfl, (HM.out.setFloor _ rfl).setCount _ rfl, ((But.refl _ _).set _ _).set _ _⟩)
    · rw [if_neg h4, decide_eq_false (show ¬ (v + 512 < v ∨ 0 < ct) by omega)]
      go_enter Try.func12, Try.ntmps12
      go_wp2_with (go_at_call 11; refine HL.out.mono ?_; rintro e w' ⟨rfl, rfl⟩)
      all_goals first | (exfalso; omega) | (go_ret; exact ⟨rfl, HM.out.setFloor _ rfl, (But.refl _ _).set _ _⟩)
  · rw [if_neg h1]
    by_cases h3 : fl + 8 + 512 < v
    · rw [if_pos h3, decide_eq_true (show fl + 8 + 512 < v ∨ 0 < ct from .inl h3)]
      go_enter Try.func12, Try.ntmps12
      go_wp2_with (go_at_call 11; refine HL.out.mono ?_; rintro e w' ⟨rfl, rfl⟩)
      all_goals first | (exfalso; omega) | (go_ret; exact ⟨rfl, (HM.out.setFloor _ rfl).setCount _ rfl, ((But.refl _ _).set _ _).set _ _⟩)
    · rw [if_neg h3]
      by_cases h4 : 0 < ct
      · rw [if_pos h4, decide_eq_true (show fl + 8 + 512 < v ∨ 0 < ct from .inr h4)]
        go_enter Try.func12, Try.ntmps12
        go_wp2_with (go_at_call 11; refine HL.out.mono ?_; rintro e w' ⟨rfl, rfl⟩)
        all_goals first | (exfalso; omega) | (go_ret; exact ⟨rfl, (HM.out.setFloor _ rfl).setCount _ rfl, ((But.refl _ _).set _ _).set _ _⟩)
      · rw [if_neg h4, decide_eq_false (show ¬ (fl + 8 + 512 < v ∨ 0 < ct) by omega)]
        go_enter Try.func12, Try.ntmps12
        go_wp2_with (go_at_call 11; refine HL.out.mono ?_; rintro e w' ⟨rfl, rfl⟩)
        all_goals first | (exfalso; omega) | (go_ret; exact ⟨rfl, HM.out.setFloor _ rfl, (But.refl _ _).set _ _⟩)
end Vad
end Go.Proofs.Ytklpicfeajmadaa
