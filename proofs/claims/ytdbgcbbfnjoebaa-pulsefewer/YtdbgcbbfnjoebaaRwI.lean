/- The program's writer: another one is made of it. -/
import Derived.Test.YtdbgcbbfnjoebaaRwH
namespace Go.Proofs.Ytdbgcbbfnjoebaa
open Go.RowKit

theorem clone_own (a : Option Addr) (n cap : Nat) (bs : List Nat) (w : World) (h : w.ownsRow 0 5 1 (.slice a n cap) n (bvals bs)) (hn : n ≤ 1000000) :
    Calls Try.prog 27 #[.slice a n cap] w fun e w' => ∃ v', e = .returned v' ∧ w'.ownsRow w.heap.size 5 1 v' n (bvals bs) ∧ Below w.heap.size w w' := by
  have hl : bs.length = n := by have := h.1; simpa [bvals] using this
  have HS : Hid (SrcAt w a n cap bs) := by
    refine ⟨hl, ?_⟩
    rcases h.2 with ⟨h1, h2⟩ | ⟨g, cap', cur, hv, _, hh, hc, hm, hs, ht⟩
    · cases h1
      exact .inl ⟨rfl, rfl, rfl⟩
    · cases hv
      subst hl
      obtain ⟨_, _, f, hr, hf⟩ := cells_of_owned h
      refine .inr ⟨_, rfl, fun i hi => ?_⟩
      rw [Addr.add_lit, Nat.zero_add]
      have h2 := hr.cell (i := i) (by omega)
      rw [hf i hi] at h2
      exact h2
  have HH : Hid (w.ownsRow 0 5 1 (.slice a n cap) n (bvals bs)) := h
  cases a with
  | none =>
    rcases h.2 with ⟨h1, h2⟩ | ⟨g, cap', cur, hv, _⟩
    · cases h1
      have hnn : ∀ W : World, (binOp .eql 35 (.slice none 0 0) (.slice none 0 0)).run Try.prog W = .ok (.bool true) W := fun W => by kernel_rfl
      clear h
      go_enter Try.func27, Try.ntmps27
      go_wp2
      go_ret
      exact ⟨_, rfl, ⟨HH.out.1, .inl ⟨rfl, rfl⟩⟩, Below.refl _ _⟩
    · cases hv
  | some x =>
    have hnn : ∀ W : World, (binOp .eql 35 (.slice (some x) n cap) (.slice none 0 0)).run Try.prog W = .ok (.bool false) W := fun W => by kernel_rfl
    clear h
    go_enter Try.func27, Try.ntmps27
    go_wp2_with (at_builtin; refine wpList_append_bytes _ _ 0 [] (some x) n cap bs (owned_empty _) (HS.out.keep ((Below.refl _ _).alloc (Nat.le_refl _) _) (Nat.le_refl _)) (by omega) (by simp) rfl _ _ rfl rfl rfl ?_; intro v w1 hown hbel)
    go_ret
    rw [Nat.zero_add, List.nil_append] at hown
    exact ⟨v, rfl, hown, ((Below.refl _ _).alloc (Nat.le_refl _) _).trans hbel⟩

theorem own_form {w : World} {B : Nat} {e : TypeId} {z : Nat} {v : Value} {n : Nat} {xs : List Value} (h : w.ownsRow B e z v n xs) : (∃ a cap, v = .slice a n cap) ∧ ∀ k, v.ownBlock = some k → B ≤ k ∧ k < w.heap.size := by
  obtain ⟨_, ⟨h1, h2⟩ | ⟨g, cap, cur, hv, hB, hh, _⟩⟩ := h
  · exact ⟨⟨none, 0, by rw [h1, h2]⟩, fun k hk => by rw [h1] at hk; cases hk⟩
  · refine ⟨⟨_, cap, hv⟩, fun k hk => ?_⟩
    rw [hv] at hk
    cases hk
    exact ⟨hB, (Array.getElem?_eq_some_iff.1 hh).1⟩

theorem own_zero {w : World} {B : Nat} {e : TypeId} {z : Nat} {v : Value} {n : Nat} {xs : List Value} (h : w.ownsRow B e z v n xs) : w.ownsRow 0 e z v n xs := by
  obtain ⟨hl, h1 | ⟨g, cap, cur, hv, _, hrest⟩⟩ := h
  · exact ⟨hl, .inl h1⟩
  · exact ⟨hl, .inr ⟨g, cap, cur, hv, Nat.zero_le _, hrest⟩⟩

/-- What has been put together is a writer. -/
theorem We.copied {w w1 w2 : World} {c n m : Nat} {a1 a2 : Option Addr} {c1 c2 : Nat} {s : Es} {o : Obj} (hc : c = w.heap.size) (hrow : (w.alloc o).rowIs c 52 7 (encF (.slice none 0 0) (.slice none 0 0) s) ∨ ∃ fv bv, (w.alloc o).rowIs c 52 7 (encF fv bv s))
    (hn : s.front.length = n) (hm : s.back.length = m)
    (ho1 : w1.ownsRow (w.alloc o).heap.size 5 1 (.slice a1 n c1) n (bvals s.front)) (hb1 : Below (w.alloc o).heap.size (w.alloc o) w1)
    (ho2 : w2.ownsRow w1.heap.size 5 1 (.slice a2 m c2) m (bvals s.back)) (hb2 : Below w1.heap.size (w1.setCell ⟨c, 0, none⟩ (.slice a1 n c1)) w2) :
    ∃ S', Wd S' c s (w2.setCell ⟨c, 3, none⟩ (.slice a2 m c2)) ∧ (∀ k, S' k → w.heap.size ≤ k) ∧ Below w.heap.size w (w2.setCell ⟨c, 3, none⟩ (.slice a2 m c2)) := by
  have hrow' : ∃ fv bv, (w.alloc o).rowIs c 52 7 (encF fv bv s) := by
    rcases hrow with h | h
    · exact ⟨_, _, h⟩
    · exact h
  obtain ⟨fv, bv, hrow⟩ := hrow'
  have hz : (w.alloc o).heap.size = w.heap.size + 1 := by simp
  obtain ⟨_, f1⟩ := own_form ho1
  obtain ⟨_, f2⟩ := own_form ho2
  have B0 : But c w1 (w1.setCell ⟨c, 0, none⟩ (.slice a1 n c1)) := (But.refl c w1).set 0 _
  have B3 : But c w2 (w2.setCell ⟨c, 3, none⟩ (.slice a2 m c2)) := (But.refl c w2).set 3 _
  have r1 : w1.rowIs c 52 7 (encF fv bv s) := hrow.of_block (hb1.block c (by rw [hz]; omega))
  have r2 := (r1.set 0 (.slice a1 n c1))
  have s1 := hb1.size
  have s2 := hb2.size
  rw [B0.size] at s2
  have r3 := r2.of_block (w' := w2) (hb2.block c (by omega))
  have r4 := r3.set 3 (.slice a2 m c2)
  refine ⟨fun k => k = c ∨ (Value.slice a1 n c1).ownBlock = some k ∨ (Value.slice a2 m c2).ownBlock = some k, ⟨.slice a1 n c1, .slice a2 m c2, r4.congr (lt7 rfl rfl rfl rfl rfl rfl rfl), .inl rfl, ?_, ?_, ?_, ?_⟩, ?_, ?_⟩
  · intro k hk
    rw [B3.size]
    rcases hk with h | h | h
    · omega
    · have := (f1 k h).2; omega
    · exact (f2 k h).2
  · refine ⟨?_, fun k hk => ⟨.inr (.inl hk), fun e => by have := (f1 k hk).1; omega⟩⟩
    rw [hn]
    refine ownsRow_of_block (own_zero ho1) fun k hk => ?_
    have h1 := f1 k hk
    rw [B3.block k (by omega), hb2.block k h1.2, B0.block k (by omega)]
  · refine ⟨?_, fun k hk => ⟨.inr (.inr hk), fun e => by have := (f2 k hk).1; omega⟩⟩
    rw [hm]
    refine ownsRow_of_block (own_zero ho2) fun k hk => ?_
    have h1 := f2 k hk
    exact B3.block k (by omega)
  · intro k h1 h2
    have := (f1 k h1).2
    have := (f2 k h2).1
    omega
  · intro k hk
    rcases hk with h | h | h
    · omega
    · have := (f1 k h).1; omega
    · have := (f2 k h).1; omega
  · have x1 : Below w.heap.size w (w.alloc o) := (Below.refl _ w).alloc (Nat.le_refl _) _
    exact (((x1.trans (hb1.mono (by omega))).trans (B0.below (by omega))).trans (hb2.mono (by omega))).trans (B3.below (by omega))

end Go.Proofs.Ytdbgcbbfnjoebaa
