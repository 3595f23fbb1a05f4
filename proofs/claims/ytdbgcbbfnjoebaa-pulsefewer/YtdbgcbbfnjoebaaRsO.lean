/- The document's own reader behind a pointer: what its cells hold; its next byte; going on; to choose, to take. -/
import Derived.Test.YtdbgcbbfnjoebaaRcG
namespace Go.Proofs.Ytdbgcbbfnjoebaa
open Go.RowKit

def decG (a : Option Addr) (n cap : Nat) (s : St) (ee fr back wait waiting : Nat) : Nat → Value
  | 0 => .slice a n cap
  | 1 => .int .u64 s.rng
  | 2 => .int .u64 s.val
  | 3 => .int .i64 s.last
  | 4 => .int .i64 fr
  | 5 => .int .i64 back
  | 6 => .int .u64 wait
  | 7 => .int .i64 waiting
  | 8 => .int .i64 s.cnt
  | 9 => .bool s.bad
  | _ => .int .u64 ee

/-- At p lies the document's reader of the bytes bs (they lie in the block g), in the state s; its last quotient is ee. -/
def Rq (p g : Nat) (bs : List Nat) (s : St) (ee : Nat) (w : World) : Prop :=
  ∃ a n cap back wait waiting, w.rowIs p 61 11 (decG a n cap s ee (min s.front n) (min back n) wait waiting) ∧ BytesIn w g a n bs ∧ (0 < n → g ≠ p) ∧ n ≤ 140737488351232 ∧ Waits bs s.raw back wait waiting

def Rr (p g : Nat) (bs : List Nat) (s : St) (w : World) : Prop := ∃ ee, Rq p g bs s ee w

theorem Rq.lt {p g : Nat} {bs : List Nat} {s : St} {ee : Nat} {w : World} (h : Rq p g bs s ee w) : p < w.heap.size := by
  obtain ⟨_, _, _, _, _, _, h, _⟩ := h
  exact h.lt

theorem Rq.bytes {p g : Nat} {bs : List Nat} {s : St} {ee : Nat} {w : World} (h : Rq p g bs s ee w) : Bytes bs := by
  obtain ⟨_, _, _, _, _, _, _, h, _⟩ := h
  exact h.2.1

theorem Rq.drewN {p g : Nat} {bs : List Nat} {s : St} {ee : Nat} {w : World} (h : Rq p g bs s ee w) (n : Nat) : Rq p g bs s ee (w.drewN n) := h

theorem Rq.of_blocks {p g : Nat} {bs : List Nat} {s : St} {ee : Nat} {w w' : World} (h : Rq p g bs s ee w) (hp : w'.heap[p]? = w.heap[p]?) (hg : bs ≠ [] → w'.heap[g]? = w.heap[g]?) : Rq p g bs s ee w' := by
  obtain ⟨a, n, cap, back, wait, waiting, h1, h2, h3, h4, h5⟩ := h
  exact ⟨a, n, cap, back, wait, waiting, h1.of_block hp, h2.of_block (fun h0 => hg (by intro e; rw [e] at h2; have := h2.1; simp at this; omega)), h3, h4, h5⟩

theorem Rr.of_blocks {p g : Nat} {bs : List Nat} {s : St} {w w' : World} (h : Rr p g bs s w) (hp : w'.heap[p]? = w.heap[p]?) (hg : bs ≠ [] → w'.heap[g]? = w.heap[g]?) : Rr p g bs s w' := by
  obtain ⟨ee, h⟩ := h
  exact ⟨ee, h.of_blocks hp hg⟩

theorem Rr.lt {p g : Nat} {bs : List Nat} {s : St} {w : World} (h : Rr p g bs s w) : p < w.heap.size := by
  obtain ⟨_, h⟩ := h
  exact h.lt

theorem Rr.below {p g B : Nat} {bs : List Nat} {s : St} {w w' : World} (h : Rr p g bs s w) (hb : Below B w w') (hp : p < B) (hg : bs ≠ [] → g < B) : Rr p g bs s w' :=
  h.of_blocks (hb.block p hp) (fun h0 => hb.block g (hg h0))

theorem Rr.but {p g q : Nat} {bs : List Nat} {s : St} {w w' : World} (h : Rr p g bs s w) (hb : But q w w') (hp : p ≠ q) (hg : g ≠ q) : Rr p g bs s w' :=
  h.of_blocks (hb.block p hp) (fun _ => hb.block g hg)

theorem Rr.drewN {p g : Nat} {bs : List Nat} {s : St} {w : World} (h : Rr p g bs s w) (n : Nat) : Rr p g bs s (w.drewN n) := h

theorem lt11 {q : Nat → Prop} (h0 : q 0) (h1 : q 1) (h2 : q 2) (h3 : q 3) (h4 : q 4) (h5 : q 5) (h6 : q 6) (h7 : q 7) (h8 : q 8) (h9 : q 9) (h10 : q 10) : ∀ j, j < 11 → q j
  | 0, _ => h0 | 1, _ => h1 | 2, _ => h2 | 3, _ => h3 | 4, _ => h4 | 5, _ => h5 | 6, _ => h6 | 7, _ => h7 | 8, _ => h8 | 9, _ => h9 | 10, _ => h10
  | n + 11, h => absurd h (by omega)

theorem Rq.set {p g : Nat} {bs : List Nat} {s t : St} {ee ef : Nat} {w : World} (h : Rq p g bs s ee w) (i : Nat) (v : Value)
    (he : ∀ a n cap back wait waiting j, j < 11 → (if j = i then v else decG a n cap s ee (min s.front n) back wait waiting j) = decG a n cap t ef (min t.front n) back wait waiting j) (hr : t.raw = s.raw) : Rq p g bs t ef (w.setCell ⟨p, i, none⟩ v) := by
  obtain ⟨a, n, cap, back, wait, waiting, h1, h2, h3, h4, h5⟩ := h
  refine ⟨a, n, cap, back, wait, waiting, (h1.set i v).congr (he _ _ _ _ _ _), h2.of_block (fun h0 => Below.heap_setCell _ _ _ _ (h3 h0)), h3, h4, ?_⟩
  rw [hr]; exact h5

section
variable {p g : Nat} {bs : List Nat} {s : St} {ee : Nat} {w : World}
theorem Rq.setRng (h : Rq p g bs s ee w) (x : Nat) {v : Int} (hv : v = x) : Rq p g bs { s with rng := x } ee (w.setCell ⟨p, 1, none⟩ (.int .u64 v)) :=
  h.set 1 _ (fun _ _ _ _ _ _ => lt11 rfl (by rw [hv]; rfl) rfl rfl rfl rfl rfl rfl rfl rfl rfl) rfl
theorem Rq.setVal (h : Rq p g bs s ee w) (x : Nat) {v : Int} (hv : v = x) : Rq p g bs { s with val := x } ee (w.setCell ⟨p, 2, none⟩ (.int .u64 v)) :=
  h.set 2 _ (fun _ _ _ _ _ _ => lt11 rfl rfl (by rw [hv]; rfl) rfl rfl rfl rfl rfl rfl rfl rfl) rfl
theorem Rq.setLast (h : Rq p g bs s ee w) (x : Nat) {v : Int} (hv : v = x) : Rq p g bs { s with last := x } ee (w.setCell ⟨p, 3, none⟩ (.int .i64 v)) :=
  h.set 3 _ (fun _ _ _ _ _ _ => lt11 rfl rfl rfl (by rw [hv]; rfl) rfl rfl rfl rfl rfl rfl rfl) rfl
theorem Rq.setCnt (h : Rq p g bs s ee w) (x : Nat) {v : Int} (hv : v = x) : Rq p g bs { s with cnt := x } ee (w.setCell ⟨p, 8, none⟩ (.int .i64 v)) :=
  h.set 8 _ (fun _ _ _ _ _ _ => lt11 rfl rfl rfl rfl rfl rfl rfl rfl (by rw [hv]; rfl) rfl rfl) rfl
theorem Rq.setBad (h : Rq p g bs s ee w) (x : Bool) : Rq p g bs { s with bad := x } ee (w.setCell ⟨p, 9, none⟩ (.bool x)) :=
  h.set 9 _ (fun _ _ _ _ _ _ => lt11 rfl rfl rfl rfl rfl rfl rfl rfl rfl rfl rfl) rfl
theorem Rq.setE (h : Rq p g bs s ee w) (x : Nat) {v : Int} (hv : v = x) : Rq p g bs s x (w.setCell ⟨p, 10, none⟩ (.int .u64 v)) :=
  h.set 10 _ (fun _ _ _ _ _ _ => lt11 rfl rfl rfl rfl rfl rfl rfl rfl rfl rfl (by rw [hv]; rfl)) rfl
theorem Rq.fields (h : Rq p g bs s ee w) : w.cell? ⟨p, 1, none⟩ = some (.int .u64 s.rng) ∧ w.cell? ⟨p, 2, none⟩ = some (.int .u64 s.val) ∧ w.cell? ⟨p, 3, none⟩ = some (.int .i64 s.last) ∧
    w.cell? ⟨p, 8, none⟩ = some (.int .i64 s.cnt) ∧ w.cell? ⟨p, 9, none⟩ = some (.bool s.bad) ∧ w.cell? ⟨p, 10, none⟩ = some (.int .u64 ee) ∧ ∀ i, w.frozen? ⟨p, i, none⟩ = false := by
  obtain ⟨_, _, _, _, _, _, h, _⟩ := h
  exact ⟨h.cell (i := 1) (by decide), h.cell (i := 2) (by decide), h.cell (i := 3) (by decide), h.cell (i := 8) (by decide), h.cell (i := 9) (by decide), h.cell (i := 10) (by decide), h.frozen⟩
end

set_option maxHeartbeats 800000 in
theorem rnext_any (p g : Nat) (bs : List Nat) (s : St) (ee : Nat) (w : World) (h : Rq p g bs s ee w) :
    Calls Try.prog 36 #[.pointer (some ⟨p, 0, none⟩)] w fun e w' => e = .returned (.int .i64 (byteAt bs s.front)) ∧ Rq p g bs { s with front := s.front + 1 } ee w' ∧ But p w w' := by
  have HH : Hid (Rq p g bs s ee w) := h
  obtain ⟨a, n, cap, back, wait, waiting, hrow, ⟨hl, hby, hcc⟩, hgp, hn, hw⟩ := h
  have q0 : w.cell? ⟨p, 0, none⟩ = some (.slice a n cap) := hrow.cell (i := 0) (by decide)
  have q4 : w.cell? ⟨p, 4, none⟩ = some (.int .i64 (min s.front n : Nat)) := hrow.cell (i := 4) (by decide)
  have qf := hrow.frozen
  by_cases hlt : s.front < n
  · obtain ⟨o, rfl, hc⟩ := hcc (by omega)
    have hx := hc s.front hlt
    have hx2 := hby s.front
    have hgp' := hgp (by omega)
    rw [Nat.min_eq_left (by omega)] at q4
    have HN : Hid (∀ v : Int, v = (s.front : Int) + 1 → Rq p g bs { s with front := s.front + 1 } ee (w.setCell ⟨p, 4, none⟩ (.int .i64 v))) := fun v hv => by
      refine ⟨_, n, cap, back, wait, waiting, (hrow.set 4 _).congr (lt11 rfl rfl rfl rfl ?_ rfl rfl rfl rfl rfl rfl), ?_, hgp, hn, hw⟩
      · show Value.int .i64 v = .int .i64 ((min (s.front + 1) n : Nat) : Int)
        rw [hv, Nat.min_eq_left (by omega)]; rfl
      · exact BytesIn.of_block ⟨hl, hby, hcc⟩ fun h0 => Below.heap_setCell _ _ _ _ (hgp h0)
    generalize byteAt bs s.front = x at *
    clear hcc hc hrow hw hby hgp
    go_enter Try.func36, Try.ntmps36
    go_wp2
    go_quiet (fail)
    go_wp2
    go_quiet (fail)
    go_wp2
    go_ret
    exact ⟨rfl, HN.out _ rfl, (((But.refl p w).drewN _).set _ _).drewN _⟩
  · rw [Nat.min_eq_right (by omega)] at q4
    have e : byteAt bs s.front = 0 := by rw [byteAt, List.getElem?_eq_none (by omega)]; rfl
    rw [e]
    have HN : Hid (Rq p g bs { s with front := s.front + 1 } ee w) := by
      refine ⟨_, n, cap, back, wait, waiting, hrow.congr (lt11 rfl rfl rfl rfl ?_ rfl rfl rfl rfl rfl rfl), ⟨hl, hby, hcc⟩, hgp, hn, hw⟩
      show Value.int .i64 ((min s.front n : Nat) : Int) = .int .i64 ((min (s.front + 1) n : Nat) : Int)
      rw [Nat.min_eq_right (by omega), Nat.min_eq_right (by omega)]
    clear hcc hrow hw hby hgp e
    go_enter Try.func36, Try.ntmps36
    go_wp2
    go_quiet (fail)
    go_wp2
    go_ret
    exact ⟨rfl, HN.out, (But.refl p w).drewN _⟩

end Go.Proofs.Ytdbgcbbfnjoebaa
