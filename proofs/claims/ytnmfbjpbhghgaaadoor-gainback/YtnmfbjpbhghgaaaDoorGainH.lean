/- Package gain, the calls that write. -/
import Derived.Test.YtnmfbjpbhghgaaaDoorGainG
import Derived.Test.YtnmfbjpbhghgaaaDoorGainE
namespace Go.Proofs.YtnmfbjpbhghgaaaDoor
open Go.RowKit

theorem EntryAt.mono {B B' C : Nat} {w : World} {v1 v2 : Value} {x : Wr} (h : EntryAt B C w v1 v2 x) (hB : B' ≤ B) : EntryAt B' C w v1 v2 x := by
  rcases h with ⟨b1, b2, b3, h1, h2, h3, h4, a, n, cap, h5, h6, h7, h8, h9, h10, h11, h12⟩ | ⟨b1, b2, b3, h1, h2, h3, h4, h5, h6, h7, h8, h9⟩
  · exact .inl ⟨b1, b2, b3, ⟨by omega, h1.2⟩, ⟨by omega, h2.2⟩, ⟨by omega, h3.2⟩, h4, a, n, cap, h5, h6, h7, h8, h9, h10, fun b off ha h0 => ⟨by have := (h11 b off ha h0).1; omega, (h11 b off ha h0).2⟩, h12⟩
  · exact .inr ⟨b1, b2, b3, ⟨by omega, h1.2⟩, ⟨by omega, h2.2⟩, ⟨by omega, h3.2⟩, h4, h5, h6, h7, h8, h9⟩

theorem TableAt.mono {B B' C : Nat} {w : World} {a : Option Addr} {n : Nat} {xs : List Wr} (h : TableAt B C w a n xs) (hB : B' ≤ B) : TableAt B' C w a n xs := by
  obtain ⟨h1, h2, b, h3, h4, h5, h6⟩ := h
  refine ⟨h1, h2, b, h3, by omega, h5, fun i x hx => ?_⟩
  obtain ⟨v1, v2, k1, k2, k3⟩ := h6 i x hx
  exact ⟨v1, v2, k1, k2, k3.mono hB⟩

def numCells (vs : List Int) : Obj := .cells (vs.map (Value.int .i64)).toArray 3

/-- The table first, then the numbers. -/
theorem write_after (vs : List Int) (S : Nat → Prop) (p : Nat) (s : Es) (a : Option Addr) (n : Nat) (xs : List Wr) (w0 w1 w2 : World) (h : Wd S p s w0) (hi : InvE s) (hc : s.cnt ≤ 1000000000000) (hb1 : Below w0.heap.size w0 w1) (ht : TableAt w0.heap.size w1.heap.size w1 a n xs)
    (hb2 : Below w1.heap.size w1 w2) (hv : xs.map (·.v) = vs) (hok : ∀ x ∈ xs, okX x) (hn : vs.length = n) (hh : w2.heap.size = w1.heap.size) :
    Calls Tryd.prog 34 #[.pointer (some ⟨p, 0, none⟩), .slice a n n, .slice (some ⟨w1.heap.size, 0, none⟩) n n] (w2.alloc (numCells vs)) fun e w' => e = .returned (.tuple #[]) ∧ ∃ S', Wd S' p (putsX xs s) w' ∧ Went S w0 S' w' := by
  have hb3 : Below w2.heap.size w2 (w2.alloc (numCells vs)) := (Below.refl _ _).alloc (Nat.le_refl _) _
  have hb4 : Below w1.heap.size w1 (w2.alloc (numCells vs)) := hb2.trans (hb3.mono hb2.size)
  have hb5 : Below w0.heap.size w0 (w2.alloc (numCells vs)) := hb1.trans (hb4.mono hb1.size)
  have hsz : (w2.alloc (numCells vs)).heap.size = w1.heap.size + 1 := by rw [World.size_alloc, hh]
  have hrow : RowAt (w2.alloc (numCells vs)) (some ⟨w2.heap.size, 0, none⟩) vs.length vs := .of_new (newRow_alloc w2 vs _)
  rw [hh, hn] at hrow
  have h1 := hb1.size
  refine (writeAll_any S p s a _ n n xs vs w0.heap.size (w1.heap.size + 1) _ (h.keep hb5) hi hc (ht.same hb4.size (fun k _ hk => hb4.block k hk) (Nat.le_succ _)) hrow (fun b off he _ => by cases he; exact ⟨h1, Nat.lt_succ_self _⟩) hv hok h.lt (by rw [hsz]; exact Nat.le_refl _)).mono ?_
  rintro e w' ⟨rfl, S', k1, k2⟩
  exact ⟨rfl, S', k1, ((Went.refl S w0).keep hb5).trans k2⟩

/-- The numbers first, then the table. -/
theorem write_before (vs : List Int) (S : Nat → Prop) (p : Nat) (s : Es) (a : Option Addr) (n : Nat) (xs : List Wr) (w0 w1 w2 w3 : World) (h : Wd S p s w0) (hi : InvE s) (hc : s.cnt ≤ 1000000000000) (hb1 : Below w0.heap.size w0 w1) (hh : w1.heap.size = w0.heap.size)
    (ht : TableAt (w1.alloc (numCells vs)).heap.size w2.heap.size w2 a n xs) (hb2 : Below (w1.alloc (numCells vs)).heap.size (w1.alloc (numCells vs)) w2) (hb3 : Below w2.heap.size w2 w3) (hv : xs.map (·.v) = vs) (hok : ∀ x ∈ xs, okX x) (hn : vs.length = n) :
    Calls Tryd.prog 34 #[.pointer (some ⟨p, 0, none⟩), .slice a n n, .slice (some ⟨w0.heap.size, 0, none⟩) n n] w3 fun e w' => e = .returned (.tuple #[]) ∧ ∃ S', Wd S' p (putsX xs s) w' ∧ Went S w0 S' w' := by
  have hb4 : Below w1.heap.size w1 (w1.alloc (numCells vs)) := (Below.refl _ _).alloc (Nat.le_refl _) _
  have hb5 : Below (w1.alloc (numCells vs)).heap.size (w1.alloc (numCells vs)) w3 := hb2.trans (hb3.mono hb2.size)
  have hb6 : Below w0.heap.size w0 w3 := hb1.trans ((hb4.trans (hb5.mono hb4.size)).mono (by omega))
  have hrow : RowAt (w1.alloc (numCells vs)) (some ⟨w1.heap.size, 0, none⟩) vs.length vs := .of_new (newRow_alloc w1 vs _)
  rw [hh, hn] at hrow
  have hsz : (w1.alloc (numCells vs)).heap.size = w0.heap.size + 1 := by rw [World.size_alloc, hh]
  have h2 := hb2.size
  refine (writeAll_any S p s a _ n n xs vs w0.heap.size w2.heap.size _ (h.keep hb6) hi hc ((ht.mono (by omega)).keep (Nat.le_refl _) hb3) (hrow.keep hb5 (Nat.le_refl _)) (fun b off he _ => by cases he; exact ⟨Nat.le_refl _, by omega⟩) hv hok h.lt hb3.size).mono ?_
  rintro e w' ⟨rfl, S', k1, k2⟩
  exact ⟨rfl, S', k1, ((Went.refl S w0).keep hb6).trans k2⟩

/-! ### A loudness by itself -/
theorem good1 : goodB (icdfL 1) = true := by decide +kernel
theorem good2 : goodB (icdfL 2) = true := by decide +kernel
theorem good6 : goodB (icdfL 6) = true := by decide +kernel

def firstW (g : Int) : List Wr := [symX (icdfL 1) (g / 8), uintX 8 (g % 8)]

theorem firstW_ok {g : Int} (h : 0 ≤ g ∧ g ≤ 63) : ∀ x ∈ firstW g, okX x := fun x hx => by
  unfold firstW at hx
  rcases List.mem_cons.1 hx with rfl | hx
  · exact .inl ⟨rfl, good1, by show 0 ≤ g / 8; omega, by show g / 8 < ((icdfL 1).length : Nat); rw [show (icdfL 1).length = 8 by decide]; omega⟩
  · obtain rfl : x = uintX 8 (g % 8) := by simpa using hx
    exact .inr ⟨rfl, by show (1 : Int) ≤ 8; decide, by show (8 : Int) ≤ 4294967295; decide, by show 0 ≤ g % 8; omega, by show g % 8 < 8; omega⟩

theorem writeFirst_bad (p : Nat) (g : Int) (w : World) (h : ¬ (0 ≤ g ∧ g ≤ 63)) :
    Calls Tryd.prog 12 #[.pointer (some ⟨p, 0, none⟩), .int .i64 g] w fun e w' => e = .returned (.int .i64 1) ∧ w' = w := by
  by_cases h1 : g < 0
  · clear h
    go_enter Tryd.func12, Tryd.ntmps12
    go_wp2
    go_ret
    exact ⟨rfl, rfl⟩
  · have h2 : 63 < g := by omega
    clear h
    go_enter Tryd.func12, Tryd.ntmps12
    go_wp2
    go_ret
    exact ⟨rfl, rfl⟩

theorem writeFirst_any (S : Nat → Prop) (p : Nat) (s : Es) (g : Int) (w : World) (h : Wd S p s w) (hi : InvE s) (hc : s.cnt ≤ 1000000000000) (hg : 0 ≤ g ∧ g ≤ 63) :
    Calls Tryd.prog 12 #[.pointer (some ⟨p, 0, none⟩), .int .i64 g] w fun e w' => e = .returned (.int .i64 0) ∧ ∃ S', Wd S' p (putsX (firstW g) s) w' ∧ Went S w S' w' := by
  have HH : Hid (Wd S p s w) := h
  have HOK : Hid (∀ x ∈ firstW g, okX x) := firstW_ok hg
  clear h
  have h0 := hg.1
  have h1 := hg.2
  clear hg
  go_enter Tryd.func12, Tryd.ntmps12
  go_wp2_with (first
    | (go_at_call 35; go_loud (refine (first_any (g / 8) (g % 8) _).mono ?_; rintro e w1 ⟨a1, rfl, ht, hb1⟩))
    | (go_at_call 34; go_loud (refine (write_after [g / 8, g % 8] S p s a1 2 (firstW g) w w1 w1 HH.out hi hc hb1 ht (Below.refl _ _) rfl HOK.out rfl rfl).mono ?_; rintro e w2 ⟨rfl, S2, hd2, hw2⟩)))
  go_ret
  exact ⟨rfl, S2, hd2, hw2⟩

/-! ### One by the one ahead -/
def nextK (g was : Int) : Int := clampI (clampI g 0 63 - clampI was 0 63 + 8) 0 16
def nextW (k : Int) : List Wr := [symX (icdfL 2) k]

theorem nextW_ok {k : Int} (h : 0 ≤ k ∧ k ≤ 16) : ∀ x ∈ nextW k, okX x := fun x hx => by
  obtain rfl : x = symX (icdfL 2) k := by simpa [nextW] using hx
  exact .inl ⟨rfl, good2, h.1, by show k < ((icdfL 2).length : Nat); rw [show (icdfL 2).length = 17 by decide]; omega⟩

theorem writeNext_any (S : Nat → Prop) (p : Nat) (s : Es) (g was : Int) (w : World) (h : Wd S p s w) (hi : InvE s) (hc : s.cnt ≤ 1000000000000) :
    Calls Tryd.prog 30 #[.pointer (some ⟨p, 0, none⟩), .int .i64 g, .int .i64 was] w fun e w' => e = .returned (.tuple #[.int .i64 (nextI was (nextK g was)), .int .i64 0]) ∧ ∃ S', Wd S' p (putsX (nextW (nextK g was)) s) w' ∧ Went S w S' w' := by
  have HH : Hid (Wd S p s w) := h
  have c1 := clampI_in g 0 63 (by decide)
  have c2 := clampI_in was 0 63 (by decide)
  have c3 := clampI_in (clampI g 0 63 - clampI was 0 63 + 8) 0 16 (by decide)
  have HN : Hid (∀ k, nextI was k = clampI (clampI was 0 63 + k - 8) 0 63) := fun _ => rfl
  obtain ⟨K, hK⟩ : ∃ K, nextK g was = K := ⟨_, rfl⟩
  rw [hK]
  have HK : Hid (clampI (clampI g 0 63 - clampI was 0 63 + 8) 0 16 = K) := hK
  rw [HK.out] at c3
  have HOK : Hid (∀ x ∈ nextW K, okX x) := nextW_ok c3
  obtain ⟨G, hG⟩ : ∃ G, clampI g 0 63 = G := ⟨_, rfl⟩
  obtain ⟨Q, hQ⟩ : ∃ Q, clampI was 0 63 = Q := ⟨_, rfl⟩
  rw [hG] at c1 HK
  rw [hQ] at c2 HK
  have HG : Hid (clampI g 0 63 = G) := hG
  have HQ : Hid (clampI was 0 63 = Q) := hQ
  clear hK hG hQ h
  have t1 : Hid True := trivial
  have t2 : Hid True := trivial
  go_enter Tryd.func30, Tryd.ntmps30
  go_wp2_with (first
    | (go_at_call 33; clear t1; refine (gclamp_any g 63 _ (by decide)).mono ?_; rw [HG.out]; rintro e w ⟨rfl, rfl⟩)
    | (go_at_call 33; clear t2; refine (gclamp_any was 63 _ (by decide)).mono ?_; rw [HQ.out]; rintro e w ⟨rfl, rfl⟩)
    | (go_at_call 33; go_loud (refine (gclamp_any (G - Q + 8) 16 _ (by decide)).mono ?_; rw [HK.out]; rintro e w ⟨rfl, rfl⟩))
    | (go_at_call 51; go_loud (refine (next_any K _).mono ?_; rintro e w1 ⟨a1, rfl, ht, hb1⟩))
    | (go_at_call 34; go_loud (refine (write_after [K] S p s a1 1 (nextW K) w w1 w1 HH.out hi hc hb1 ht (Below.refl _ _) rfl HOK.out rfl rfl).mono ?_; rintro e w2 ⟨rfl, S2, hd2, hw2⟩))
    | (go_at_call 50; go_loud (refine (changed_any was K _ c3.1 (by omega)).mono ?_; rw [← HN.out]; rintro e w3 ⟨rfl, rfl⟩)))
  go_ret2
  exact ⟨rfl, S2, hd2, hw2⟩

end Go.Proofs.YtnmfbjpbhghgaaaDoor
