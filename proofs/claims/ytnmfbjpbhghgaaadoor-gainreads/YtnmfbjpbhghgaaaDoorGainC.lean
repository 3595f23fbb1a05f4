/- Package gain, what tells a number: two functions, each with what it captured; tables of them. -/
import Derived.Test.YtnmfbjpbhghgaaaDoorRcD
import Derived.Test.YtnmfbjpbhghgaaaDoorMB
import Derived.Test.YtnmfbjpbhghgaaaDoorNumA
namespace Go.Proofs.YtnmfbjpbhghgaaaDoor
open Go.RowKit

/-- The two functions that read and write a symbol of a table, or a number below another; what they captured lies in blocks from B up to C. -/
def EntryAt (B C : Nat) (w : World) (v1 v2 : Value) (x : Wr) : Prop :=
  (∃ b1 b2 b3, (B ≤ b1 ∧ b1 < C) ∧ (B ≤ b2 ∧ b2 < C) ∧ (B ≤ b3 ∧ b3 < C) ∧ x.op = 0 ∧ ∃ a n cap, v1 = .func (.func 71) #[] #[.pointer (some ⟨b1, 0, none⟩), .pointer (some ⟨b3, 0, none⟩)] ∧
    v2 = .func (.func 72) #[] #[.pointer (some ⟨b2, 0, none⟩), .pointer (some ⟨b3, 0, none⟩)] ∧
    w.cell? ⟨b1, 0, none⟩ = some (.func (.func 60) #[] #[]) ∧ w.cell? ⟨b2, 0, none⟩ = some (.func (.func 61) #[] #[]) ∧ w.cell? ⟨b3, 0, none⟩ = some (.slice a n cap) ∧
    RowAt w a n x.t ∧ (∀ b off, a = some ⟨b, off, none⟩ → 0 < n → B ≤ b ∧ b < C) ∧ n ≤ 17) ∨
  (∃ b1 b2 b3, (B ≤ b1 ∧ b1 < C) ∧ (B ≤ b2 ∧ b2 < C) ∧ (B ≤ b3 ∧ b3 < C) ∧ x.op = 3 ∧ v1 = .func (.func 77) #[] #[.pointer (some ⟨b1, 0, none⟩), .pointer (some ⟨b3, 0, none⟩)] ∧
    v2 = .func (.func 78) #[] #[.pointer (some ⟨b2, 0, none⟩), .pointer (some ⟨b3, 0, none⟩)] ∧
    w.cell? ⟨b1, 0, none⟩ = some (.func (.func 64) #[] #[]) ∧ w.cell? ⟨b2, 0, none⟩ = some (.func (.func 65) #[] #[]) ∧ w.cell? ⟨b3, 0, none⟩ = some (.int .i64 x.n))

def symX (t : List Int) (v : Int) : Wr := { op := 0, v := v, n := 0, m := 0, t := t, f := 0 }
def uintX (n v : Int) : Wr := { op := 3, v := v, n := n, m := 0, t := [], f := 0 }

theorem four_allocs (w : World) (o1 o2 o3 o4 : Obj) : ((((w.alloc o1).alloc o2).alloc o3).alloc o4).heap.size = w.heap.size + 4 ∧
    ((((w.alloc o1).alloc o2).alloc o3).alloc o4).heap[w.heap.size]? = some o1 ∧ ((((w.alloc o1).alloc o2).alloc o3).alloc o4).heap[w.heap.size + 1]? = some o2 ∧
    ((((w.alloc o1).alloc o2).alloc o3).alloc o4).heap[w.heap.size + 1 + 1]? = some o3 ∧ ((((w.alloc o1).alloc o2).alloc o3).alloc o4).heap[w.heap.size + 1 + 1 + 1]? = some o4 ∧
    Below w.heap.size w ((((w.alloc o1).alloc o2).alloc o3).alloc o4) := by
  have s1 : (w.alloc o1).heap.size = w.heap.size + 1 := World.size_alloc _ _
  have s2 : ((w.alloc o1).alloc o2).heap.size = w.heap.size + 1 + 1 := by rw [World.size_alloc, s1]
  have s3 : (((w.alloc o1).alloc o2).alloc o3).heap.size = w.heap.size + 1 + 1 + 1 := by rw [World.size_alloc, s2]
  have b0 := (Below.refl w.heap.size w).alloc (Nat.le_refl _) o1
  have b1 := (Below.refl (w.alloc o1).heap.size (w.alloc o1)).alloc (Nat.le_refl _) o2
  have b2 := (Below.refl ((w.alloc o1).alloc o2).heap.size ((w.alloc o1).alloc o2)).alloc (Nat.le_refl _) o3
  have b3 := (Below.refl (((w.alloc o1).alloc o2).alloc o3).heap.size (((w.alloc o1).alloc o2).alloc o3)).alloc (Nat.le_refl _) o4
  have n1 := heap_alloc_new w o1
  have n2 := heap_alloc_new (w.alloc o1) o2
  have n3 := heap_alloc_new ((w.alloc o1).alloc o2) o3
  have n4 := heap_alloc_new (((w.alloc o1).alloc o2).alloc o3) o4
  rw [s1] at n2 b1
  rw [s2] at n3 b2
  rw [s3] at n4 b3
  exact ⟨by rw [World.size_alloc, s3], (b3.block _ (by omega)).trans ((b2.block _ (by omega)).trans ((b1.block _ (by omega)).trans n1)), (b3.block _ (by omega)).trans ((b2.block _ (by omega)).trans n2), (b3.block _ (by omega)).trans n3, n4,
    b0.trans ((b1.mono (by omega)).trans ((b2.mono (by omega)).trans (b3.mono (by omega))))⟩

theorem cell_of {w : World} {b : Nat} {v : Value} {t : TypeId} {fr : Nat × Nat} (h : w.heap[b]? = some (.cells #[v] t fr)) : w.cell? ⟨b, 0, none⟩ = some v := by simp [World.cell?, h]

theorem RowAt.same {w w' : World} {a : Option Addr} {n : Nat} {t : List Int} (h : RowAt w a n t) (hs : w.heap.size ≤ w'.heap.size) (hb : ∀ b off, a = some ⟨b, off, none⟩ → 0 < n → w'.heap[b]? = w.heap[b]?) : RowAt w' a n t :=
  ⟨h.1, fun h0 => by
    obtain ⟨b, off, ha, hlt, hc⟩ := h.2 h0
    exact ⟨b, off, ha, Nat.lt_of_lt_of_le hlt hs, fun i hi => (World.cell?_of_block (w := w) (w' := w') (a := ⟨b, off + i, none⟩) (hb b off ha h0)).trans (hc i hi)⟩⟩

theorem EntryAt.same {B C C' : Nat} {w w' : World} {v1 v2 : Value} {x : Wr} (h : EntryAt B C w v1 v2 x) (hs : w.heap.size ≤ w'.heap.size) (hb : ∀ k, B ≤ k → k < C → w'.heap[k]? = w.heap[k]?) (hC : C ≤ C') : EntryAt B C' w' v1 v2 x := by
  have hc : ∀ k, B ≤ k → k < C → w'.cell? ⟨k, 0, none⟩ = w.cell? ⟨k, 0, none⟩ := fun k h1 h2 => World.cell?_of_block (w := w) (w' := w') (a := ⟨k, 0, none⟩) (hb k h1 h2)
  rcases h with ⟨b1, b2, b3, h1, h2, h3, h4, a, n, cap, h5, h6, h7, h8, h9, h10, h11, h12⟩ | ⟨b1, b2, b3, h1, h2, h3, h4, h5, h6, h7, h8, h9⟩
  · exact .inl ⟨b1, b2, b3, ⟨h1.1, by omega⟩, ⟨h2.1, by omega⟩, ⟨h3.1, by omega⟩, h4, a, n, cap, h5, h6, (hc _ h1.1 h1.2).trans h7, (hc _ h2.1 h2.2).trans h8, (hc _ h3.1 h3.2).trans h9,
      h10.same hs (fun b off ha h0 => hb b (h11 b off ha h0).1 (h11 b off ha h0).2), fun b off ha h0 => ⟨(h11 b off ha h0).1, by have := (h11 b off ha h0).2; omega⟩, h12⟩
  · exact .inr ⟨b1, b2, b3, ⟨h1.1, by omega⟩, ⟨h2.1, by omega⟩, ⟨h3.1, by omega⟩, h4, h5, h6, (hc _ h1.1 h1.2).trans h7, (hc _ h2.1 h2.2).trans h8, (hc _ h3.1 h3.2).trans h9⟩

theorem numSym_any (a : Option Addr) (n cap : Nat) (t : List Int) (v : Int) (B : Nat) (w : World) (ht : RowAt w a n t) (hB : ∀ b off, a = some ⟨b, off, none⟩ → 0 < n → B ≤ b) (hn : n ≤ 17) (hw : B ≤ w.heap.size) :
    Calls Tryd.prog 59 #[.func (.func 60) #[] #[], .func (.func 61) #[] #[], .slice a n cap] w fun e w' => ∃ v1 v2, e = .returned (.agg #[v1, v2]) ∧ EntryAt B w'.heap.size w' v1 v2 (symX t v) ∧ Below w.heap.size w w' := by
  have hs1 := fun (a : Addr) (c : Array Value) (w : World) => run_store Tryd.prog w a (.func (.func 71) #[] c) .plain rfl
  have hs2 := fun (a : Addr) (c : Array Value) (w : World) => run_store Tryd.prog w a (.func (.func 72) #[] c) .plain rfl
  have HF : Hid (∀ o1 o2 o3 o4 : Obj, _) := four_allocs w
  have HT : Hid (RowAt w a n t ∧ ∀ b off, a = some ⟨b, off, none⟩ → 0 < n → B ≤ b) := ⟨ht, hB⟩
  have HBw : Hid (B ≤ w.heap.size) := hw
  clear ht hB hw
  go_enter Tryd.func59, Tryd.ntmps59
  go_wp2
  obtain ⟨f0, f1, f2, f3, f4, hb⟩ := HF.out _ _ _ _
  refine bodyPost_ret (results_cell_row rfl _ _ _ _ _ _ _ rfl f4 Tryd.underlying84 rfl (by kernel_rfl)) rfl ⟨_, _, rfl, .inl ⟨w.heap.size, w.heap.size + 1, w.heap.size + 1 + 1, ?_⟩, hb⟩
  have hw := HBw.out
  refine ⟨⟨hw, by rw [f0]; omega⟩, ⟨by omega, by rw [f0]; omega⟩, ⟨by omega, by rw [f0]; omega⟩, rfl, a, n, cap, rfl, rfl, cell_of f1, cell_of f2, cell_of f3, HT.out.1.keep hb (Nat.le_refl _), fun b off ha h0 => ⟨HT.out.2 b off ha h0, ?_⟩, hn⟩
  obtain ⟨b', off', ha', hlt, _⟩ := HT.out.1.2 h0
  rw [ha] at ha'
  cases ha'
  rw [f0]
  omega

theorem numUint_any (n v : Int) (B : Nat) (w : World) (hw : B ≤ w.heap.size) :
    Calls Tryd.prog 63 #[.func (.func 64) #[] #[], .func (.func 65) #[] #[], .int .i64 n] w fun e w' => ∃ v1 v2, e = .returned (.agg #[v1, v2]) ∧ EntryAt B w'.heap.size w' v1 v2 (uintX n v) ∧ Below w.heap.size w w' := by
  have hs1 := fun (a : Addr) (c : Array Value) (w : World) => run_store Tryd.prog w a (.func (.func 77) #[] c) .plain rfl
  have hs2 := fun (a : Addr) (c : Array Value) (w : World) => run_store Tryd.prog w a (.func (.func 78) #[] c) .plain rfl
  have HF : Hid (∀ o1 o2 o3 o4 : Obj, _) := four_allocs w
  have HBw : Hid (B ≤ w.heap.size) := hw
  clear hw
  go_enter Tryd.func63, Tryd.ntmps63
  go_wp2
  obtain ⟨f0, f1, f2, f3, f4, hb⟩ := HF.out _ _ _ _
  refine bodyPost_ret (results_cell_row rfl _ _ _ _ _ _ _ rfl f4 Tryd.underlying84 rfl (by kernel_rfl)) rfl ⟨_, _, rfl, .inr ⟨w.heap.size, w.heap.size + 1, w.heap.size + 1 + 1, ?_⟩, hb⟩
  have hw := HBw.out
  exact ⟨⟨hw, by rw [f0]; omega⟩, ⟨by omega, by rw [f0]; omega⟩, ⟨by omega, by rw [f0]; omega⟩, rfl, rfl, rfl, cell_of f1, cell_of f2, cell_of f3⟩

/-! ### Tables -/
def TableAt (B C : Nat) (w : World) (a : Option Addr) (n : Nat) (xs : List Wr) : Prop :=
  xs.length = n ∧ n ≤ 2 ∧ ∃ b, a = some ⟨b, 0, none⟩ ∧ B ≤ b ∧ b < C ∧ ∀ i x, xs[i]? = some x → ∃ v1 v2, w.cell? ⟨b, i * 2, none⟩ = some v1 ∧ w.cell? ⟨b, i * 2 + 1, none⟩ = some v2 ∧ EntryAt B C w v1 v2 x

theorem TableAt.same {B C C' : Nat} {w w' : World} {a : Option Addr} {n : Nat} {xs : List Wr} (h : TableAt B C w a n xs) (hs : w.heap.size ≤ w'.heap.size) (hb : ∀ k, B ≤ k → k < C → w'.heap[k]? = w.heap[k]?) (hC : C ≤ C') : TableAt B C' w' a n xs := by
  obtain ⟨h1, h2, b, h3, h4, h5, h6⟩ := h
  refine ⟨h1, h2, b, h3, h4, by omega, fun i x hx => ?_⟩
  obtain ⟨v1, v2, k1, k2, k3⟩ := h6 i x hx
  exact ⟨v1, v2, (World.cell?_of_block (w := w) (w' := w') (a := ⟨b, i * 2, none⟩) (hb b h4 h5)).trans k1, (World.cell?_of_block (w := w) (w' := w') (a := ⟨b, i * 2 + 1, none⟩) (hb b h4 h5)).trans k2, k3.same hs hb hC⟩

theorem TableAt.keep {B C : Nat} {w w' : World} {a : Option Addr} {n : Nat} {xs : List Wr} (h : TableAt B C w a n xs) (hC : C ≤ w.heap.size) (hb : Below w.heap.size w w') : TableAt B C w' a n xs :=
  h.same hb.size (fun k _ hk => hb.block k (by omega)) (Nat.le_refl _)

theorem table_two {B : Nat} {w : World} {v1 v2 u1 u2 : Value} {x y : Wr} (hx : EntryAt B w.heap.size w v1 v2 x) (hy : EntryAt B w.heap.size w u1 u2 y) (hB : B ≤ w.heap.size) :
    TableAt B (w.heap.size + 1) (w.alloc (.cells #[v1, v2, u1, u2] 84)) (some ⟨w.heap.size, 0, none⟩) 2 [x, y] := by
  have hb := (Below.refl w.heap.size w).alloc (Nat.le_refl _) (.cells #[v1, v2, u1, u2] 84)
  refine ⟨rfl, by decide, w.heap.size, rfl, hB, Nat.lt_succ_self _, fun i z hz => ?_⟩
  match i, hz with
  | 0, hz => obtain rfl : x = z := by simpa using hz
             exact ⟨v1, v2, by rw [World.cell?_alloc_new]; rfl, by rw [World.cell?_alloc_new]; rfl, hx.same hb.size (fun k _ hk => hb.block k hk) (Nat.le_succ _)⟩
  | 1, hz => obtain rfl : y = z := by simpa using hz
             exact ⟨u1, u2, by rw [World.cell?_alloc_new]; rfl, by rw [World.cell?_alloc_new]; rfl, hy.same hb.size (fun k _ hk => hb.block k hk) (Nat.le_succ _)⟩
  | i + 2, hz => simp at hz

theorem table_one {B : Nat} {w : World} {v1 v2 : Value} {x : Wr} (hx : EntryAt B w.heap.size w v1 v2 x) (hB : B ≤ w.heap.size) :
    TableAt B (w.heap.size + 1) (w.alloc (.cells #[v1, v2] 84)) (some ⟨w.heap.size, 0, none⟩) 1 [x] := by
  have hb := (Below.refl w.heap.size w).alloc (Nat.le_refl _) (.cells #[v1, v2] 84)
  refine ⟨rfl, by decide, w.heap.size, rfl, hB, Nat.lt_succ_self _, fun i z hz => ?_⟩
  match i, hz with
  | 0, hz => obtain rfl : x = z := by simpa using hz
             exact ⟨v1, v2, by rw [World.cell?_alloc_new]; rfl, by rw [World.cell?_alloc_new]; rfl, hx.same hb.size (fun k _ hk => hb.block k hk) (Nat.le_succ _)⟩
  | i + 1, hz => simp at hz

/-- The program's table k, as a row that is new. -/
theorem icdf_row (k : Int) (w : World) :
    Calls Tryd.prog 62 #[.int .i64 k] w fun e w' => ∃ a n cap, e = .returned (.slice a n cap) ∧ RowAt w' a n (icdfL k) ∧ (∀ b off, a = some ⟨b, off, none⟩ → 0 < n → w.heap.size ≤ b) ∧ n ≤ 17 ∧ Below w.heap.size w w' := by
  refine (icdf_any k w).mono ?_
  rintro e w' ⟨a, cap, rfl, hn, hb⟩
  refine ⟨a, _, cap, rfl, .of_new hn, fun b off ha h0 => ?_, icdfL_len k, hb⟩
  obtain ⟨b', ha', hB, _⟩ := hn.cells h0
  rw [ha] at ha'
  cases ha'
  exact hB

theorem first_any (v u : Int) (w : World) :
    Calls Tryd.prog 35 #[] w fun e w' => ∃ a, e = .returned (.slice a 2 2) ∧ TableAt w.heap.size w'.heap.size w' a 2 [symX (icdfL 1) v, uintX 8 u] ∧ Below w.heap.size w w' := by
  have hb := Below.refl w.heap.size w
  go_enter Tryd.func35, Tryd.ntmps35
  go_wp2_with (first
    | (go_at_call 62; go_loud (refine (icdf_row 1 _).mono ?_; rintro e w1 ⟨a1, n1, cap1, rfl, ht, hr, hn1, hb1⟩; replace hb := hb.trans (hb1.mono hb.size); clear hb1))
    | (go_at_call 59; go_loud (refine (numSym_any a1 n1 cap1 (icdfL 1) v w.heap.size _ ht hr hn1 hb.size).mono ?_; rintro e w2 ⟨v1, v2, rfl, he1, hb1⟩; replace hb := hb.trans (hb1.mono hb.size); clear hb1 ht hr))
    | (go_at_call 63; go_loud (refine (numUint_any 8 u w.heap.size _ hb.size).mono ?_; rintro e w3 ⟨u1, u2, rfl, he2, hb1⟩; replace he1 := he1.same hb1.size (fun k _ hk => hb1.block k hk) hb1.size; replace hb := hb.trans (hb1.mono hb.size); clear hb1)))
  go_ret
  exact ⟨_, rfl, by rw [World.size_alloc]; exact table_two he1 he2 hb.size, hb.alloc hb.size _⟩

theorem next_any (v : Int) (w : World) :
    Calls Tryd.prog 51 #[] w fun e w' => ∃ a, e = .returned (.slice a 1 1) ∧ TableAt w.heap.size w'.heap.size w' a 1 [symX (icdfL 2) v] ∧ Below w.heap.size w w' := by
  have hb := Below.refl w.heap.size w
  go_enter Tryd.func51, Tryd.ntmps51
  go_wp2_with (first
    | (go_at_call 62; go_loud (refine (icdf_row 2 _).mono ?_; rintro e w1 ⟨a1, n1, cap1, rfl, ht, hr, hn1, hb1⟩; replace hb := hb.trans (hb1.mono hb.size); clear hb1))
    | (go_at_call 59; go_loud (refine (numSym_any a1 n1 cap1 (icdfL 2) v w.heap.size _ ht hr hn1 hb.size).mono ?_; rintro e w2 ⟨v1, v2, rfl, he1, hb1⟩; replace hb := hb.trans (hb1.mono hb.size); clear hb1 ht hr)))
  go_ret
  exact ⟨_, rfl, by rw [World.size_alloc]; exact table_one he1 hb.size, hb.alloc hb.size _⟩

theorem repeated_any (least most v u : Int) (w : World) (h1 : 0 ≤ least) (h2 : least ≤ most) (h3 : most ≤ 1000) :
    Calls Tryd.prog 37 #[.int .i64 least, .int .i64 most] w fun e w' => ∃ a, e = .returned (.slice a 2 2) ∧ TableAt w.heap.size w'.heap.size w' a 2 [uintX (most - least + 1) u, symX (icdfL 6) v] ∧ Below w.heap.size w w' := by
  have hb := Below.refl w.heap.size w
  go_enter Tryd.func37, Tryd.ntmps37
  go_wp2_with (first
    | (go_at_call 63; go_loud (refine (numUint_any (most - least + 1) u w.heap.size _ hb.size).mono ?_; rintro e w3 ⟨u1, u2, rfl, he2, hb1⟩; replace hb := hb.trans (hb1.mono hb.size); clear hb1))
    | (go_at_call 62; go_loud (refine (icdf_row 6 _).mono ?_; rintro e w1 ⟨a1, n1, cap1, rfl, ht, hr0, hn1, hb1⟩; have hr := (fun b off h0 h9 => Nat.le_trans hb.size (hr0 b off h0 h9)); replace he2 := he2.same hb1.size (fun k _ hk => hb1.block k hk) hb1.size; replace hb := hb.trans (hb1.mono hb.size); clear hb1 hr0))
    | (go_at_call 59; go_loud (refine (numSym_any a1 n1 cap1 (icdfL 6) v w.heap.size _ ht hr hn1 hb.size).mono ?_; rintro e w2 ⟨v1, v2, rfl, he1, hb1⟩; replace he2 := he2.same hb1.size (fun k _ hk => hb1.block k hk) hb1.size; replace hb := hb.trans (hb1.mono hb.size); clear hb1 ht hr)))
  go_ret
  exact ⟨_, rfl, by rw [World.size_alloc]; exact table_two he2 he1 hb.size, hb.alloc hb.size _⟩

end Go.Proofs.YtnmfbjpbhghgaaaDoor
