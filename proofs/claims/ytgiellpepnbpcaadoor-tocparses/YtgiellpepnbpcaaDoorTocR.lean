/- What package toc's Pack comes to. (The ways of it are laid by wip/mkpack.py.) -/
import Derived.Test.YtgiellpepnbpcaaDoorTocQ
import Derived.Test.YtgiellpepnbpcaaDoorTocI3
namespace Go.Proofs.YtgiellpepnbpcaaDoor
open Go.RowKit

theorem Four.cells {w : World} {g : Nat} {t : TypeId} {v0 v1 v2 v3 : Value} (h : Four w g t v0 v1 v2 v3) : w.cell? ⟨g, 0, none⟩ = some v0 ∧ w.cell? ⟨g, 1, none⟩ = some v1 ∧ w.cell? ⟨g, 2, none⟩ = some v2 ∧ w.cell? ⟨g, 3, none⟩ = some v3 :=
  ⟨cell_of_row w g 0 _ t _ h, cell_of_row w g 1 _ t _ h, cell_of_row w g 2 _ t _ h, cell_of_row w g 3 _ t _ h⟩
theorem Four.cellsA {w : World} {g : Nat} {t : TypeId} {v0 v1 v2 v3 : Value} (h : Four w g t v0 v1 v2 v3) : (∀ o, (w.alloc o).cell? ⟨g, 0, none⟩ = some v0) ∧ (∀ o, (w.alloc o).cell? ⟨g, 1, none⟩ = some v1) ∧ (∀ o, (w.alloc o).cell? ⟨g, 2, none⟩ = some v2) ∧ ∀ o, (w.alloc o).cell? ⟨g, 3, none⟩ = some v3 :=
  ⟨fun o => (h.alloc o).cells.1, fun o => (h.alloc o).cells.2.1, fun o => (h.alloc o).cells.2.2.1, fun o => (h.alloc o).cells.2.2.2⟩
theorem Four.keepS {w w' : World} {g : Nat} {t : TypeId} {v0 v1 v2 v3 : Value} (h : Four w g t v0 v1 v2 v3) (hb : Below (g + 1) w w') : Four w' g t v0 v1 v2 v3 := (hb.block g (by omega)).trans h

/-- In the midst of putting together: bs so far, at v. -/
structure Mid (w : World) (k ch pad : Nat) (a : Option Addr) (n cap : Nat) (W : World) (v : Value) (bs : List Nat) : Prop where
  below : Below w.heap.size w W
  box : Four W w.heap.size 25 (.int .i64 (k : Nat)) (.int .i64 (ch : Nat)) (.slice a n cap) (.int .i64 (pad : Nat))
  own : Ob (w.heap.size + 1) W v bs

theorem Mid.size {w W : World} {k ch pad : Nat} {a : Option Addr} {n cap : Nat} {v : Value} {bs : List Nat} (h : Mid w k ch pad a n cap W v bs) : w.heap.size + 1 ≤ W.heap.size := h.box.lt
theorem Mid.step {w W W' : World} {k ch pad : Nat} {a : Option Addr} {n cap : Nat} {v v' : Value} {bs bs' : List Nat} (h : Mid w k ch pad a n cap W v bs) (hb : Below (w.heap.size + 1) W W') (ho : Ob (w.heap.size + 1) W' v' bs') : Mid w k ch pad a n cap W' v' bs' :=
  ⟨h.below.trans (hb.mono (by omega)), h.box.keepS hb, ho⟩

theorem frames_slice (b off : Nat) (n cap : Nat) (z : Int) (hz : z = ((n - 1 : Nat) : Int)) (h : n ≤ cap) (h0 : 0 < n) : (∀ W, (Instr.slice 23 (.slice (some ⟨b, off, none⟩) n cap) none (some (.int .i64 z)) none).run Tryd.prog W = .ok (.slice (some ⟨b, off, none⟩) (n - 1) cap) W) ∧
    ∀ W, (Instr.sliceAt 23 (.slice (some ⟨b, off, none⟩) n cap) none (some (.int .i64 z)) none).run Tryd.prog W = .ok (.slice (some ⟨b, off, none⟩) (n - 1) cap) W := by
  subst hz
  have hel : Tryd.prog.underlying 23 = some (.slice (Tryd.prog.elem 23)) := by kernel_rfl
  have hsz : ∀ W, (sizeOf (Tryd.prog.elem 23)).run Tryd.prog W = .ok 1 W := fun W => by kernel_rfl
  have hr : ∀ W, (Instr.slice 23 (.slice (some ⟨b, off, none⟩) n cap) none (some (.int .i64 ((n - 1 : Nat) : Int))) none).run Tryd.prog W = .ok (.slice (some ⟨b, off, none⟩) (n - 1) cap) W := fun W => by
    rw [run_slice_h (P := Tryd.prog) (w := W) 23 (some ⟨b, off, none⟩) n cap hel .i64 ((n - 1 : Nat) : Int) (by omega) (by omega), hsz]
    show Result.ok (Value.slice (if cap = 0 then some ⟨b, off, none⟩ else some ((⟨b, off, none⟩ : Addr).add (0 * 1))) (n - 1 - 0) (cap - 0)) W = _
    rw [if_neg (by omega), Addr.add_lit]
    rfl
  exact ⟨hr, fun W => by rw [run_sliceAt_slice (P := Tryd.prog) (w := W) (h := hel)]; exact hr W⟩

theorem goodI_of {k ch pad : Nat} {fs : List (List Nat)} (h : GoodP ⟨k, ch, fs, pad⟩) : goodI k ch pad fs :=
  ⟨by omega, by have := h.config; simp only at this; omega, by have := h.ch.1; simp only at this; omega, by have := h.ch.2; simp only at this; omega, by omega, by have := h.pad; simp only at this; omega, h.some_, by have h1 := h.time; have h2 : ((k : Int)).toNat = k := rfl; rw [h2]; exact h1, h.short⟩
theorem goodP_of {c ch pad : Int} {fs : List (List Nat)} (h : goodI c ch pad fs) : ∃ k h' p : Nat, c = (k : Nat) ∧ ch = (h' : Nat) ∧ pad = (p : Nat) ∧ GoodP ⟨k, h', fs, p⟩ := by
  obtain ⟨k, rfl⟩ := Int.eq_ofNat_of_zero_le h.c0
  obtain ⟨h', rfl⟩ := Int.eq_ofNat_of_zero_le (show 0 ≤ ch by have := h.ch0; omega)
  obtain ⟨p, rfl⟩ := Int.eq_ofNat_of_zero_le h.pad0
  exact ⟨k, h', p, rfl, rfl, rfl, by have := h.c1; show k ≤ 11; omega, ⟨by have := h.ch0; show 1 ≤ h'; omega, by have := h.ch1; show h' ≤ 2; omega⟩, h.some_, h.time, h.short, by have := h.pad1; show p ≤ 1000; omega⟩

theorem pack_bad (c ch pad : Int) (a : Option Addr) (n cap : Nat) (fs : List (List Nat)) (B : Nat) (w : World) (hC : CfgAt w) (h : FramesAt w B a fs) (hn : fs.length = n) (hs : n ≤ 9223372036854775807) (hg : ¬ goodI c ch pad fs) :
    Calls Tryd.prog 13 #[.agg #[.int .i64 c, .int .i64 ch, .slice a n cap, .int .i64 pad]] w fun e w' => e = .returned (.tuple #[.slice none 0 0, .int .i64 1]) ∧ Below w.heap.size w w' := by
  have HG : Hid (¬ goodI c ch pad fs) := hg
  have HF : Hid (FramesAt w B a fs) := h
  have HC : Hid (CfgAt w) := hC
  have HN : Hid (fs.length = n) := hn
  clear hg h hC hn
  go_enter Tryd.func13, Tryd.ntmps13
  go_wp2_with (go_at_call 14; go_loud (refine (good_any c ch pad a n cap fs B _ (HC.out.keep ((Below.refl _ _).alloc (Nat.le_refl _) _)) (HF.out.keep ((Below.refl _ _).alloc (Nat.le_refl _) _)) HN.out hs).mono ?_; rintro e w1 ⟨⟨b, rfl, hb⟩, hb1⟩; obtain rfl : b = false := (by cases b with | false => rfl | true => exact absurd (hb.1 rfl) HG.out); have hB := boxed hb1))
  go_ret2
  exact ⟨rfl, hB⟩

theorem putsN_le : ∀ l : List Nat, (putsN l).length ≤ 2 * l.length
  | [] => Nat.le_refl _
  | n :: l => by
    have h1 := putsN_le l
    have h2 := putN_len n
    show (putN n ++ putsN l).length ≤ 2 * (l.length + 1)
    rw [List.length_append]
    omega

theorem flatN_le {fs : List (List Nat)} (h : ∀ f ∈ fs, f.length ≤ 1275) : ∀ j, (flatN (fs.take j)).length ≤ 1275 * j := fun j => by
  induction fs generalizing j with
  | nil => rw [List.take_nil]; exact Nat.zero_le _
  | cons f fs ih =>
    cases j with
    | zero => exact Nat.le_refl _
    | succ j =>
      have h1 := ih (fun g hg => h g (by simp [hg])) j
      have h2 := h f (by simp)
      show (f ++ flatN (fs.take j)).length ≤ _
      rw [List.length_append]
      omega

theorem ob_some {B : Nat} {w : World} {v : Value} {bs : List Nat} (h : Ob B w v bs) (h0 : 0 < bs.length) : ∃ ad c, v = .slice (some ad) bs.length c ∧ True := by
  rcases h.2 with ⟨_, hn⟩ | ⟨g, cap, _, rfl, _⟩
  · omega
  · exact ⟨_, _, rfl, trivial⟩

end Go.Proofs.YtgiellpepnbpcaaDoor
