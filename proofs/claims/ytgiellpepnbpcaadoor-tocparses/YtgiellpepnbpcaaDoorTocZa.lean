/- The document's own taker of bytes: what lies behind its pointer; one byte taken. -/
import Derived.Test.YtgiellpepnbpcaaDoorTocV
namespace Go.Proofs.YtgiellpepnbpcaaDoor
open Go.RowKit

/-- Nothing that was there has turned but block g. -/
structure Only (g : Nat) (w w' : World) : Prop where
  os : w'.os = w.os
  tape : w'.tape = w.tape
  output : w'.output = w.output
  size : w.heap.size ≤ w'.heap.size
  block : ∀ k, k < w.heap.size → k ≠ g → w'.heap[k]? = w.heap[k]?

theorem Only.refl (g : Nat) (w : World) : Only g w w := ⟨rfl, rfl, rfl, Nat.le_refl _, fun _ _ _ => rfl⟩
theorem Only.trans {g : Nat} {a b c : World} (h : Only g a b) (k : Only g b c) : Only g a c :=
  ⟨k.os.trans h.os, k.tape.trans h.tape, k.output.trans h.output, Nat.le_trans h.size k.size, fun i hi hg => (k.block i (Nat.lt_of_lt_of_le hi h.size) hg).trans (h.block i hi hg)⟩
theorem Only.of {g : Nat} {w w' : World} (h : Below w.heap.size w w') : Only g w w' := ⟨h.os, h.tape, h.output, h.size, fun k hk _ => h.block k hk⟩
theorem Only.set {g : Nat} {w w' : World} (h : Only g w w') (i : Nat) (u : Value) : Only g w (w'.setCell ⟨g, i, none⟩ u) :=
  ⟨h.os, h.tape, h.output, by simpa [World.setCell] using h.size, fun k hk hg => (Below.heap_setCell _ _ _ _ hg).trans (h.block k hk hg)⟩
theorem Only.drewN {g : Nat} {w w' : World} (h : Only g w w') (n : Nat) : Only g w (w'.drewN n) := ⟨h.os, h.tape, h.output, h.size, h.block⟩
theorem Only.below {g B : Nat} {w w' : World} (h : Only g w w') (hB : B ≤ g) (hg : g < w.heap.size) : Below B w w' :=
  ⟨h.os, h.tape, h.output, h.size, fun k hk => h.block k (by omega) (by omega)⟩

/-- At block g lies the taker. -/
def Tk (w : World) (g : Nat) (a : Option Addr) (n c : Nat) (bad : Bool) : Prop := w.heap[g]? = some (.cells #[.slice a n c, .bool bad] 67 (0, 0))

theorem Tk.lt {w : World} {g : Nat} {a : Option Addr} {n c : Nat} {bad : Bool} (h : Tk w g a n c bad) : g < w.heap.size := (Array.getElem?_eq_some_iff.1 h).1
theorem Tk.cells {w : World} {g : Nat} {a : Option Addr} {n c : Nat} {bad : Bool} (h : Tk w g a n c bad) : w.cell? ⟨g, 0, none⟩ = some (.slice a n c) ∧ w.cell? ⟨g, 1, none⟩ = some (.bool bad) :=
  ⟨cell_of_row w g 0 _ _ _ h, cell_of_row w g 1 _ _ _ h⟩
theorem Tk.frozen {w : World} {g : Nat} {a : Option Addr} {n c : Nat} {bad : Bool} (h : Tk w g a n c bad) : w.frozen? ⟨g, 0, none⟩ = false ∧ w.frozen? ⟨g, 1, none⟩ = false := by
  unfold Tk at h
  constructor <;> simp [World.frozen?, h]
theorem Tk.set0 {w : World} {g : Nat} {a : Option Addr} {n c : Nat} {bad : Bool} (h : Tk w g a n c bad) (a' : Option Addr) (n' c' : Nat) : Tk (w.setCell ⟨g, 0, none⟩ (.slice a' n' c')) g a' n' c' bad := four_set h 0 _
theorem Tk.set1 {w : World} {g : Nat} {a : Option Addr} {n c : Nat} {bad : Bool} (h : Tk w g a n c bad) (b : Bool) : Tk (w.setCell ⟨g, 1, none⟩ (.bool b)) g a n c b := four_set h 1 _
theorem Tk.keep {w w' : World} {g : Nat} {a : Option Addr} {n c : Nat} {bad : Bool} (h : Tk w g a n c bad) (hb : Below w.heap.size w w') : Tk w' g a n c bad := (hb.block g h.lt).trans h
theorem Tk.only {w w' : World} {g p : Nat} {a : Option Addr} {n c : Nat} {bad : Bool} (h : Tk w g a n c bad) (hb : Only p w w') (hp : g ≠ p) : Tk w' g a n c bad := (hb.block g h.lt hp).trans h

theorem one_nil (g : Nat) (a : Option Addr) (c : Nat) (bad : Bool) (w : World) (h : Tk w g a 0 c bad) :
    Calls Tryd.prog 32 #[.pointer (some ⟨g, 0, none⟩)] w fun e w' => e = .returned (.int .i64 0) ∧ Tk w' g a 0 c true ∧ Only g w w' := by
  have HT : Hid (Tk w g a 0 c bad) := h
  obtain ⟨p0, p1⟩ := h.cells
  obtain ⟨f0, f1⟩ := h.frozen
  clear h
  go_enter Tryd.func32, Tryd.ntmps32
  go_wp2
  go_ret
  exact ⟨rfl, HT.out.set1 true, (Only.refl _ _).set 1 _⟩

theorem one_cons (g : Nat) (a : Option Addr) (n c : Nat) (bad : Bool) (x : Nat) (r : List Nat) (w : World) (h : Tk w g a n c bad) (hb : Bs w a n c (x :: r)) :
    Calls Tryd.prog 32 #[.pointer (some ⟨g, 0, none⟩)] w fun e w' => e = .returned (.int .i64 (x : Nat)) ∧ (∃ a' n' c', Tk w' g a' n' c' bad ∧ Sub a n c (x :: r) a' n' c' r) ∧ Only g w w' := by
  have HT : Hid (Tk w g a n c bad) := h
  obtain ⟨p0, p1⟩ := h.cells
  obtain ⟨f0, f1⟩ := h.frozen
  have hlen := hb.len
  simp only [List.length_cons] at hlen
  obtain ⟨gb, o, rfl, hg, hcell⟩ := hb.cell (i := 0) (by omega)
  have hx : x < 256 := hb.row.small x (by simp)
  have hcap := hb.room
  have c0 : w.cell? ⟨gb, o, none⟩ = some (.int .u8 (x : Nat)) := hcell 0 (by omega)
  have hn0 : (n == 0) = false := beq_eq_false_iff_ne.2 (by omega)
  have hn2 : (0 : Int) < n := by omega
  have hn1 : (1 : Int) ≤ n := by omega
  obtain ⟨a1, n1, cap1, hn', hb1, hs0, hs1⟩ := hb.from_ 1 1 rfl (by omega)
  have HB1 : Hid (Sub _ n c (x :: r) a1 n1 cap1 r) := hb1
  have b0 : (0 : Int) ≤ x := by omega
  have b2 : x ≤ 255 := by omega
  clear h hb hcell hb1 hn' hx hlen hg
  go_enter Tryd.func32, Tryd.ntmps32
  go_wp2
  go_ret
  exact ⟨rfl, ⟨a1, n1, cap1, HT.out.set0 a1 n1 cap1, HB1.out⟩, (Only.refl _ _).set 0 _⟩

end Go.Proofs.YtgiellpepnbpcaaDoor
