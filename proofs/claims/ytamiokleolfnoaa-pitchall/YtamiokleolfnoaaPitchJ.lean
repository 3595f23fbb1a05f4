/- Package pitch's Search: what the heap holds after each lag; the best of them, the best first. -/
import Derived.Test.YtamiokleolfnoaaPitchI
namespace Go.Proofs.Ytamiokleolfnoaa
namespace Pit
open Go.RowKit

theorem sortD_snoc {α : Type} (key : α → Int) (x : α) : ∀ (s l : List α), sortD key l (s ++ [x]) = insD key x (sortD key l s)
  | [], _ => rfl
  | y :: s, l => sortD_snoc key x s (insD key y l)

/-- The best b of the first k lags from a on. -/
def topL (zs : List Int) (a : Int) (b k : Nat) : List LagS := (allL zs a k).take b
def lagS (zs : List Int) (z : Int) : LagS := (z, scoreI zs z)

theorem topL_zero (zs : List Int) (a : Int) (b : Nat) : topL zs a b 0 = [] := by
  unfold topL allL lagsFrom sortD
  exact List.take_nil
theorem topL_len (zs : List Int) (a : Int) (b k : Nat) : (topL zs a b k).length = min b k := by
  unfold topL
  rw [List.length_take, allL_len]
theorem allL_succ (zs : List Int) (a : Int) (k : Nat) : allL zs a (k + 1) = insD keyL (lagS zs (a + k)) (allL zs a k) := by
  unfold allL
  show sortD keyL [] (lagsFrom zs a k ++ [_]) = _
  rw [sortD_snoc]
  rfl
theorem topL_succ (zs : List Int) (a : Int) (b k : Nat) : topL zs a b (k + 1) = (insD keyL (lagS zs (a + k)) (topL zs a b k)).take b := by
  unfold topL
  rw [allL_succ, insD_take]
theorem mem_topL {zs : List Int} {a : Int} {b k : Nat} {x : LagS} (h : x ∈ topL zs a b k) : (a ≤ x.1 ∧ x.1 < a + k) ∧ x.2 = scoreI zs x.1 := (mem_allL zs a k x).1 (List.mem_of_mem_take h)
theorem topL_ne {zs : List Int} {a : Int} {b k : Nat} (ha : 1 ≤ a) (hk : a + k ≤ 1000) : ∀ y ∈ topL zs a b k, keyL y ≠ keyL (lagS zs (a + k)) := fun y hy => by
  have h := (mem_topL hy).1
  refine keyL_apart (by omega) ?_ ?_
  · show 1 ≤ a + (k : Int) ∧ a + (k : Int) ≤ 1000
    omega
  · show y.1 ≠ a + (k : Int)
    omega

/-- There is room: one more. -/
theorem hold_more {zs : List Int} {a : Int} {b k : Nat} {e : Nat → LagS} (ha : 1 ≤ a) (hk : a + k ≤ 1000) (h : Hold keyL e (topL zs a b k)) (hkb : k < b) : Hold keyL (pushF e k (lagS zs (a + k))) (topL zs a b (k + 1)) := by
  have hl := topL_len zs a b k
  rw [Nat.min_eq_right (by omega)] at hl
  have h1 := h.push (topL_ne ha hk) (f := k + 1) (by omega)
  rw [topL_succ, List.take_of_length_le (by rw [insD_len]; omega)]
  rw [hl] at h1
  exact h1
/-- There is none: the worst goes. -/
theorem hold_full {zs : List Int} {a : Int} {b k : Nat} {e : Nat → LagS} (ha : 1 ≤ a) (hk : a + k ≤ 1000) (h : Hold keyL e (topL zs a b k)) (hkb : b ≤ k) :
    Hold keyL (pushF e b (lagS zs (a + k))) (insD keyL (lagS zs (a + k)) (topL zs a b k)) ∧ (insD keyL (lagS zs (a + k)) (topL zs a b k)).length = b + 1 ∧ (insD keyL (lagS zs (a + k)) (topL zs a b k)).dropLast = topL zs a b (k + 1) := by
  have hl := topL_len zs a b k
  rw [Nat.min_eq_left hkb] at hl
  have h1 := h.push (topL_ne ha hk) (f := b + 1) (by omega)
  rw [hl] at h1
  have h2 := insD_len keyL (lagS zs (a + k)) (topL zs a b k)
  rw [hl] at h2
  refine ⟨h1, h2, ?_⟩
  rw [topL_succ, List.dropLast_eq_take, h2]
  rfl

theorem topL_pl {zs : List Int} {a : Int} {b k : Nat} {e : Nat → LagS} {n : Nat} (ha : 1 ≤ a) (hk : a + k ≤ 1000) (h : Hold keyL e (topL zs a b k)) (hn : min b k = n) : Pl n e := by
  have h1 := Hold.pl h (fun x hx => by have := (mem_topL hx).1; omega)
  rw [topL_len, hn] at h1
  exact h1

theorem SRow.lower {B B' g n cap : Nat} {w : World} {e : Nat → LagS} (h : SRow B w g n cap e) (hB : B' ≤ B) : SRow B' w g n cap e := by
  obtain ⟨cur, h1, h2, h3, h4, h5, h6⟩ := h.block
  exact .of_block (Nat.le_trans hB h1) h2 h3 h4 h5 h6

/-- A new heap: a pointer to an empty slice. -/
theorem Hp.fresh (w : World) (e : Nat → LagS) : Hp w.heap.size (w.heap.size + 1) 0 e ((w.alloc (.cells #[] 33)).alloc (.cells #[.slice (some ⟨w.heap.size, 0, none⟩) 0 0] 41)) := by
  have h1 : (w.alloc (.cells #[] 33)).heap.size = w.heap.size + 1 := by simp
  have h2 : (w.alloc (.cells #[] 33)).ownsRow w.heap.size 33 2 (.slice (some ⟨w.heap.size, 0, none⟩) 0 0) 0 [] := World.ownsRow_made w #[] 0 (Nat.le_refl _) (by decide) rfl
  refine ⟨.slice (some ⟨w.heap.size, 0, none⟩) 0 0, ⟨?_, Nat.le_succ _, ?_, fun h => ?_⟩⟩
  · rw [← h1]
    exact heap_alloc_new _ _
  · refine row_of_block h2 fun k hk => ?_
    cases hk
    exact Below.heap_alloc _ _ _ (by rw [h1]; exact Nat.lt_succ_self _)
  · have h3 : w.heap.size = w.heap.size + 1 := by
      simp only [Value.ownBlock, Option.some.injEq] at h
      exact h
    omega

theorem search_bad (x : Option Addr) (n cap : Nat) (a M b : Int) (hn : n ≤ 9223372036854775807) (w : World) (hg : ¬ (goodLagsB n a M = true ∧ 1 ≤ b ∧ b ≤ 32)) :
    Calls Try.prog 9 #[.slice x n cap, .int .i64 a, .int .i64 M, .int .i64 b] w fun e w' => e = .returned (.tuple #[.slice none 0 0, .int .i64 1]) ∧ w' = w := by
  cases h1 : goodLagsB n a M with
  | false =>
    have HG : Hid (goodLagsB n a M = false) := h1
    clear h1 hg
    go_enter Try.func9, Try.ntmps9
    go_wp2_with (go_at_call 14; refine (goodLags_any n hn _ _ _).mono ?_; rw [HG.out]; rintro e w' ⟨rfl, rfl⟩)
    go_ret2
    exact ⟨rfl, rfl⟩
  | true =>
    have HG : Hid (goodLagsB n a M = true) := h1
    have HN : Hid (¬ (1 ≤ b ∧ b ≤ 32)) := fun h => hg ⟨h1, h⟩
    clear h1 hg
    by_cases h2 : b < 1
    · clear HN
      go_enter Try.func9, Try.ntmps9
      go_wp2_with (go_at_call 14; refine (goodLags_any n hn _ _ _).mono ?_; rw [HG.out]; rintro e w' ⟨rfl, rfl⟩)
      go_ret2
      exact ⟨rfl, rfl⟩
    · have h3 : 32 < b := by have := HN.out; omega
      clear HN
      go_enter Try.func9, Try.ntmps9
      go_wp2_with (go_at_call 14; refine (goodLags_any n hn _ _ _).mono ?_; rw [HG.out]; rintro e w' ⟨rfl, rfl⟩)
      go_ret2
      exact ⟨rfl, rfl⟩

end Pit
end Go.Proofs.Ytamiokleolfnoaa
