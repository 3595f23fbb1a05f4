/- The laws' own call that writes one thing; what was handed in to it. -/
import Derived.Test.YtinjkffkkmbioaaRencA
import Derived.Deep.RegionHeld3
namespace Go.Proofs.Ytinjkffkkmbioaa
open Go.RowKit

/-- One writing that is asked for, in memory: four numbers, and a row. -/
structure ActC (w : World) (b o : Nat) (v : ActV) : Prop where
  cop : w.cell? ⟨b, o, none⟩ = some (.int .i64 (v.z 0))
  cv : w.cell? ⟨b, o + 1, none⟩ = some (.int .i64 (v.z 1))
  cn : w.cell? ⟨b, o + 2, none⟩ = some (.int .i64 (v.z 2))
  cm : w.cell? ⟨b, o + 3, none⟩ = some (.int .i64 (v.z 3))
  ct : w.cell? ⟨b, o + 4, none⟩ = some (.slice v.a v.len v.cap)
  row : RowAt w v.a v.len (v.q.take v.len)
  bd : ∀ j, j < 4 → -9223372036854775808 ≤ v.z j ∧ v.z j ≤ 9223372036854775807
  len : v.len ≤ 9223372036854775807
  none : v.a = none → v.len = 0 ∧ v.cap = 0
  le : v.len ≤ v.cap

theorem acts_at4 {w : World} {a : Option Addr} {len cap : Nat} {vs : Nat → ActV} (h : ActsAt 4 w a len cap vs) :
    len ≤ 9223372036854775807 ∧ (0 < len → ∃ b off, a = some ⟨b, off, none⟩ ∧ b < w.heap.size ∧ ∀ i, i < len → ActC w b (off + i * 5) (vs i)) := by
  rcases h with ⟨rfl, rfl, rfl⟩ | ⟨x, rfl, hl, hm, hc⟩
  · exact ⟨by decide, fun h => absurd h (by decide)⟩
  · unfold maxLen at hm
    refine ⟨by omega, fun h0 => ?_⟩
    obtain ⟨h1, _, _⟩ := hc 0 (by omega)
    have h2 := (h1 0 (by decide)).1
    rw [Nat.zero_mul] at h2
    have hp := addr_plain h2
    have hx : (x.add 0).add 0 = x := rfl
    rw [hx] at hp h2
    refine ⟨x.block, x.off, by rw [← hp], World.block_lt_of_cell? w _ h2, fun i hi => ?_⟩
    obtain ⟨g1, g2, g3⟩ := hc i (by omega)
    rw [hp, Addr.add_lit] at g1 g2
    obtain ⟨r1, r2, r3, r4⟩ := row_at g3
    exact ⟨by have := (g1 0 (by decide)).1; rw [Addr.add_lit] at this; exact this, by have := (g1 1 (by decide)).1; rw [Addr.add_lit] at this; exact this, by have := (g1 2 (by decide)).1; rw [Addr.add_lit] at this; exact this,
      by have := (g1 3 (by decide)).1; rw [Addr.add_lit] at this; exact this, by rw [Addr.add_lit] at g2; exact g2, r1, fun j hj => bounds_i64 (g1 j hj).2, r2, r3, r4⟩

theorem ActC.keep {w w' : World} {b o : Nat} {v : ActV} (h : ActC w b o v) {B : Nat} (hb : Below B w w') (hB : w.heap.size ≤ B) : ActC w' b o v := by
  have hc : ∀ {x : Addr} {u : Value}, w.cell? x = some u → w'.cell? x = some u := fun {x u} hx => (hb.cell (p := x) (Nat.lt_of_lt_of_le (World.block_lt_of_cell? w _ hx) hB)).trans hx
  exact ⟨hc h.cop, hc h.cv, hc h.cn, hc h.cm, hc h.ct, h.row.keep hb hB, h.bd, h.len, h.none, h.le⟩

def avOf (v : ActV) : AV := ⟨v.z 0, v.z 1, v.z 2, v.z 3, v.q.take v.len⟩

theorem and_one (v : Int) : bits .and .i64 v 1 = v % 2 := and_mask_i64 v 1 (by decide)

/-- What the call is handed. -/
structure Asked (w : World) (op v n m : Int) (a : Option Addr) (len cap : Nat) (t : List Int) : Prop where
  row : RowAt w a len t
  none : a = none → cap = 0
  size : len * 8 ≤ 140737488351232
  bop : -9223372036854775808 ≤ op ∧ op ≤ 9223372036854775807
  bv : -9223372036854775808 ≤ v ∧ v ≤ 9223372036854775807
  bn : -9223372036854775808 ≤ n ∧ n ≤ 9223372036854775807
  bm : -9223372036854775808 ≤ m ∧ m ≤ 9223372036854775807

theorem Asked.keep {w w' : World} {op v n m : Int} {a : Option Addr} {len cap : Nat} {t : List Int} (h : Asked w op v n m a len cap t) (hb : Below w.heap.size w w') : Asked w' op v n m a len cap t :=
  ⟨h.row.keep hb (Nat.le_refl _), h.none, h.size, h.bop, h.bv, h.bn, h.bm⟩

/-- How one writing ends. -/
def WroteSo (x : AV) (S : Nat → Prop) (p : Nat) (s : Es) (w : World) (e : Ending) (w' : World) : Prop :=
  (mayA x → e = .returned (.tuple #[.int .i64 (wrA x).v, .int .i64 0]) ∧ ∃ S', Wd S' p (writeA x s) w' ∧ Went S w S' w') ∧
  (¬ mayA x → (∃ z, e = .returned (.tuple #[.int .i64 z, .int .i64 1])) ∧ ∃ S', Wd S' p s w' ∧ Went S w S' w')

theorem Went.keep {S S' : Nat → Prop} {a b c : World} (h : Went S a S' b) (hb : Below b.heap.size b c) : Went S a S' c :=
  ⟨hb.os.trans h.os, hb.tape.trans h.tape, hb.output.trans h.output, Nat.le_trans h.size hb.size, fun k hk hn => (hb.block k (Nat.lt_of_lt_of_le hk h.size)).trans (h.block k hk hn), h.sub⟩

theorem Went.alloc {S S' : Nat → Prop} {a b : World} (h : Went S a S' b) (o : Obj) : Went S a S' (b.alloc o) := h.keep ((Below.refl _ _).alloc (Nat.le_refl _) o)

/-- A cell that is nobody's stays as it is. -/
theorem Went.cellOf {S S' : Nat → Prop} {w w' : World} (h : Went S w S' w') {b i : Nat} (hb : b < w.heap.size) (hS : ¬ S b) : w'.cell? ⟨b, i, none⟩ = w.cell? ⟨b, i, none⟩ := World.cell?_of_block (w := w) (h.block b hb hS)

/-- What a call on the writer comes to: the error, and the writer's state then. -/
def CallEnds (S : Nat → Prop) (p : Nat) (s2 : Es) (W : World) (e : Ending) (w' : World) (err : Int) : Prop := e = .returned (.int .i64 err) ∧ ∃ S', Wd S' p s2 w' ∧ Went S W S' w'

set_option maxRecDepth 100000 in
set_option maxHeartbeats 1600000 in
theorem written_sym (err : Int) (s2 : Es) (v n m : Int) (a : Option Addr) (len cap : Nat) (t : List Int) (S : Nat → Prop) (p : Nat) (s : Es) (w : World) (h : Wd S p s w) (hx : Asked w 0 v n m a len cap t)
    (hcall : ∀ (W : World) (xo : Option Addr) (c : Nat), Wd S p s W → RowAt W xo len t → Calls Try.prog 16 #[.pointer (some ⟨p, 0, none⟩), .int .i64 v, .slice xo len c] W fun e w' => CallEnds S p s2 W e w' err) :
    Calls Try.prog 20 #[.pointer (some ⟨p, 0, none⟩), .agg #[.int .i64 0, .int .i64 v, .int .i64 n, .int .i64 m, .slice a len cap]] w fun e w' => e = .returned (.tuple #[.int .i64 v, .int .i64 err]) ∧ ∃ S', Wd S' p s2 w' ∧ Went S w S' w' := by
  have HC : Hid (∀ (W : World) (xo : Option Addr) (c : Nat), Wd S p s W → RowAt W xo len t → Calls Try.prog 16 #[.pointer (some ⟨p, 0, none⟩), .int .i64 v, .slice xo len c] W fun e w' => CallEnds S p s2 W e w' err) := hcall
  have hz : Hid (∀ W, Below w.heap.size w W → RowAt W a len t) := fun W hb => hx.row.keep hb (Nat.le_refl _)
  have hcl := hx.none
  have hsz := hx.size
  have hSb : Hid (¬ S w.heap.size) := fun hs => Nat.lt_irrefl _ (h.lt _ hs)
  have hb := ((Below.refl w.heap.size w).alloc (Nat.le_refl _) (.cells #[.int .i64 0, .int .i64 v, .int .i64 n, .int .i64 m, .slice a len cap] 40)).drew
  have hw := ((Went.refl S w).alloc (.cells #[.int .i64 0, .int .i64 v, .int .i64 n, .int .i64 m, .slice a len cap] 40)).drew
  have he := (h.keep ((Below.refl w.heap.size w).alloc (Nat.le_refl _) (.cells #[.int .i64 0, .int .i64 v, .int .i64 n, .int .i64 m, .slice a len cap] 40))).drew
  have hS1 : (w.alloc (.cells #[.int .i64 0, .int .i64 v, .int .i64 n, .int .i64 m, .slice a len cap] 40)).drew.cell? ⟨w.heap.size, 1, none⟩ = some (.int .i64 v) := by show (w.alloc _).cell? _ = _; rw [World.cell?_alloc_new]; rfl
  have hS4 : (w.alloc (.cells #[.int .i64 0, .int .i64 v, .int .i64 n, .int .i64 m, .slice a len cap] 40)).drew.cell? ⟨w.heap.size, 4, none⟩ = some (.slice a len cap) := by show (w.alloc _).cell? _ = _; rw [World.cell?_alloc_new]; rfl
  clear h hx hcall
  go_enter Try.func20, Try.ntmps20
  go_wp2
  go_region_held3 (fun W => W.cell? ⟨w.heap.size, 1, none⟩ = some (.int .i64 v) ∧ W.cell? ⟨w.heap.size, 4, none⟩ = some (.slice a len cap)) (first | (exact ⟨by assumption, by assumption⟩) | go_keep) (first
    | ((refine step_append_copy rfl (.tmp 15) (.tmp 17) rfl a len cap t (hz.out _ hb) hcl (by omega) (by simp [Act.eval]) (by simp [Act.eval]) ?_; intro r9 c8 w6 hn6 hb6; replace he := he.keep hb6; replace hw := hw.keep hb6; have hS1 := (hb6.cell (p := ⟨w.heap.size, 1, none⟩) (by simp)).trans hS1; have hS4 := (hb6.cell (p := ⟨w.heap.size, 4, none⟩) (by simp)).trans hS4; replace hb := hb.trans (hb6.mono hb.size)))
    | (go_at_call 16; go_loud (refine (HC.out _ _ _ he hn6).mono ?_; rintro e w7 ⟨rfl, S2, he2, hw2⟩; have hS1 := (hw2.cellOf (i := 1) (Nat.lt_of_lt_of_le (by simp) hb6.size) hSb.out).trans hS1; have hS4 := (hw2.cellOf (i := 4) (Nat.lt_of_lt_of_le (by simp) hb6.size) hSb.out).trans hS4; replace hw := hw.trans hw2; clear he hw2)))
  all_goals
    go_wp2
    go_ret2
    exact ⟨rfl, S2, he2, hw⟩

set_option maxRecDepth 100000 in
set_option maxHeartbeats 1600000 in
theorem written_flag (err : Int) (s2 : Es) (v n m : Int) (a : Option Addr) (len cap : Nat) (S : Nat → Prop) (p : Nat) (s : Es) (w : World) (h : Wd S p s w)
    (hcall : ∀ W : World, Wd S p s W → Calls Try.prog 18 #[.pointer (some ⟨p, 0, none⟩), .bool (decide (v % 2 = 1)), .int .i64 n] W fun e w' => CallEnds S p s2 W e w' err) :
    Calls Try.prog 20 #[.pointer (some ⟨p, 0, none⟩), .agg #[.int .i64 1, .int .i64 v, .int .i64 n, .int .i64 m, .slice a len cap]] w fun e w' => e = .returned (.tuple #[.int .i64 (v % 2), .int .i64 err]) ∧ ∃ S', Wd S' p s2 w' ∧ Went S w S' w' := by
  have HC : Hid (∀ W : World, Wd S p s W → Calls Try.prog 18 #[.pointer (some ⟨p, 0, none⟩), .bool (decide (v % 2 = 1)), .int .i64 n] W fun e w' => CallEnds S p s2 W e w' err) := hcall
  have hand : bits .and .i64 v 1 = v % 2 := and_one v
  have hSb : Hid (¬ S w.heap.size) := fun hs => Nat.lt_irrefl _ (h.lt _ hs)
  have hb := ((Below.refl w.heap.size w).alloc (Nat.le_refl _) (.cells #[.int .i64 1, .int .i64 v, .int .i64 n, .int .i64 m, .slice a len cap] 40)).drew
  have hw := ((Went.refl S w).alloc (.cells #[.int .i64 1, .int .i64 v, .int .i64 n, .int .i64 m, .slice a len cap] 40)).drew
  have he := (h.keep ((Below.refl w.heap.size w).alloc (Nat.le_refl _) (.cells #[.int .i64 1, .int .i64 v, .int .i64 n, .int .i64 m, .slice a len cap] 40))).drew
  have hS1 : (w.alloc (.cells #[.int .i64 1, .int .i64 v, .int .i64 n, .int .i64 m, .slice a len cap] 40)).drew.cell? ⟨w.heap.size, 1, none⟩ = some (.int .i64 v) := by show (w.alloc _).cell? _ = _; rw [World.cell?_alloc_new]; rfl
  have hS2 : (w.alloc (.cells #[.int .i64 1, .int .i64 v, .int .i64 n, .int .i64 m, .slice a len cap] 40)).drew.cell? ⟨w.heap.size, 2, none⟩ = some (.int .i64 n) := by show (w.alloc _).cell? _ = _; rw [World.cell?_alloc_new]; rfl
  have HSZ : Hid ((w.alloc (.cells #[.int .i64 1, .int .i64 v, .int .i64 n, .int .i64 m, .slice a len cap] 40)).heap.size ≤ (w.alloc (.cells #[.int .i64 1, .int .i64 v, .int .i64 n, .int .i64 m, .slice a len cap] 40)).heap.size) := Nat.le_refl _
  clear h hcall
  go_enter Try.func20, Try.ntmps20
  go_wp2
  go_region_held3 (fun W => W.cell? ⟨w.heap.size, 1, none⟩ = some (.int .i64 v) ∧ W.cell? ⟨w.heap.size, 2, none⟩ = some (.int .i64 n)) (first | (exact ⟨by assumption, by assumption⟩) | go_keep) (first
    | (go_at_call 18; go_loud (refine (HC.out _ he).mono ?_; rintro e w7 ⟨rfl, S2, he2, hw2⟩; have hS1 := (hw2.cellOf (i := 1) (Nat.lt_of_lt_of_le (by simp) HSZ.out) hSb.out).trans hS1; have hS2 := (hw2.cellOf (i := 2) (Nat.lt_of_lt_of_le (by simp) HSZ.out) hSb.out).trans hS2; replace hw := hw.trans hw2; clear he hw2)))
  all_goals
    go_wp2
    go_ret2
    exact ⟨rfl, S2, he2, hw⟩

set_option maxRecDepth 100000 in
set_option maxHeartbeats 1600000 in
theorem written_bits (err : Int) (s2 : Es) (v n m : Int) (a : Option Addr) (len cap : Nat) (S : Nat → Prop) (p : Nat) (s : Es) (w : World) (h : Wd S p s w)
    (hcall : ∀ W : World, Wd S p s W → Calls Try.prog 15 #[.pointer (some ⟨p, 0, none⟩), .int .i64 v, .int .i64 n] W fun e w' => CallEnds S p s2 W e w' err) :
    Calls Try.prog 20 #[.pointer (some ⟨p, 0, none⟩), .agg #[.int .i64 2, .int .i64 v, .int .i64 n, .int .i64 m, .slice a len cap]] w fun e w' => e = .returned (.tuple #[.int .i64 v, .int .i64 err]) ∧ ∃ S', Wd S' p s2 w' ∧ Went S w S' w' := by
  have HC : Hid (∀ W : World, Wd S p s W → Calls Try.prog 15 #[.pointer (some ⟨p, 0, none⟩), .int .i64 v, .int .i64 n] W fun e w' => CallEnds S p s2 W e w' err) := hcall
  have hSb : Hid (¬ S w.heap.size) := fun hs => Nat.lt_irrefl _ (h.lt _ hs)
  have hb := ((Below.refl w.heap.size w).alloc (Nat.le_refl _) (.cells #[.int .i64 2, .int .i64 v, .int .i64 n, .int .i64 m, .slice a len cap] 40)).drew
  have hw := ((Went.refl S w).alloc (.cells #[.int .i64 2, .int .i64 v, .int .i64 n, .int .i64 m, .slice a len cap] 40)).drew
  have he := (h.keep ((Below.refl w.heap.size w).alloc (Nat.le_refl _) (.cells #[.int .i64 2, .int .i64 v, .int .i64 n, .int .i64 m, .slice a len cap] 40))).drew
  have hS1 : (w.alloc (.cells #[.int .i64 2, .int .i64 v, .int .i64 n, .int .i64 m, .slice a len cap] 40)).drew.cell? ⟨w.heap.size, 1, none⟩ = some (.int .i64 v) := by show (w.alloc _).cell? _ = _; rw [World.cell?_alloc_new]; rfl
  have hS2 : (w.alloc (.cells #[.int .i64 2, .int .i64 v, .int .i64 n, .int .i64 m, .slice a len cap] 40)).drew.cell? ⟨w.heap.size, 2, none⟩ = some (.int .i64 n) := by show (w.alloc _).cell? _ = _; rw [World.cell?_alloc_new]; rfl
  have HSZ : Hid ((w.alloc (.cells #[.int .i64 2, .int .i64 v, .int .i64 n, .int .i64 m, .slice a len cap] 40)).heap.size ≤ (w.alloc (.cells #[.int .i64 2, .int .i64 v, .int .i64 n, .int .i64 m, .slice a len cap] 40)).heap.size) := Nat.le_refl _
  clear h hcall
  go_enter Try.func20, Try.ntmps20
  go_wp2
  go_region_held3 (fun W => W.cell? ⟨w.heap.size, 1, none⟩ = some (.int .i64 v) ∧ W.cell? ⟨w.heap.size, 2, none⟩ = some (.int .i64 n)) (first | (exact ⟨by assumption, by assumption⟩) | go_keep) (first
    | (go_at_call 15; go_loud (refine (HC.out _ he).mono ?_; rintro e w7 ⟨rfl, S2, he2, hw2⟩; have hS1 := (hw2.cellOf (i := 1) (Nat.lt_of_lt_of_le (by simp) HSZ.out) hSb.out).trans hS1; have hS2 := (hw2.cellOf (i := 2) (Nat.lt_of_lt_of_le (by simp) HSZ.out) hSb.out).trans hS2; replace hw := hw.trans hw2; clear he hw2)))
  all_goals
    go_wp2
    go_ret2
    exact ⟨rfl, S2, he2, hw⟩

set_option maxRecDepth 100000 in
set_option maxHeartbeats 1600000 in
theorem written_uint (err : Int) (s2 : Es) (v n m : Int) (a : Option Addr) (len cap : Nat) (S : Nat → Prop) (p : Nat) (s : Es) (w : World) (h : Wd S p s w)
    (hcall : ∀ W : World, Wd S p s W → Calls Try.prog 19 #[.pointer (some ⟨p, 0, none⟩), .int .i64 v, .int .i64 n] W fun e w' => CallEnds S p s2 W e w' err) :
    Calls Try.prog 20 #[.pointer (some ⟨p, 0, none⟩), .agg #[.int .i64 3, .int .i64 v, .int .i64 n, .int .i64 m, .slice a len cap]] w fun e w' => e = .returned (.tuple #[.int .i64 v, .int .i64 err]) ∧ ∃ S', Wd S' p s2 w' ∧ Went S w S' w' := by
  have HC : Hid (∀ W : World, Wd S p s W → Calls Try.prog 19 #[.pointer (some ⟨p, 0, none⟩), .int .i64 v, .int .i64 n] W fun e w' => CallEnds S p s2 W e w' err) := hcall
  have hSb : Hid (¬ S w.heap.size) := fun hs => Nat.lt_irrefl _ (h.lt _ hs)
  have hb := ((Below.refl w.heap.size w).alloc (Nat.le_refl _) (.cells #[.int .i64 3, .int .i64 v, .int .i64 n, .int .i64 m, .slice a len cap] 40)).drew
  have hw := ((Went.refl S w).alloc (.cells #[.int .i64 3, .int .i64 v, .int .i64 n, .int .i64 m, .slice a len cap] 40)).drew
  have he := (h.keep ((Below.refl w.heap.size w).alloc (Nat.le_refl _) (.cells #[.int .i64 3, .int .i64 v, .int .i64 n, .int .i64 m, .slice a len cap] 40))).drew
  have hS1 : (w.alloc (.cells #[.int .i64 3, .int .i64 v, .int .i64 n, .int .i64 m, .slice a len cap] 40)).drew.cell? ⟨w.heap.size, 1, none⟩ = some (.int .i64 v) := by show (w.alloc _).cell? _ = _; rw [World.cell?_alloc_new]; rfl
  have hS2 : (w.alloc (.cells #[.int .i64 3, .int .i64 v, .int .i64 n, .int .i64 m, .slice a len cap] 40)).drew.cell? ⟨w.heap.size, 2, none⟩ = some (.int .i64 n) := by show (w.alloc _).cell? _ = _; rw [World.cell?_alloc_new]; rfl
  have HSZ : Hid ((w.alloc (.cells #[.int .i64 3, .int .i64 v, .int .i64 n, .int .i64 m, .slice a len cap] 40)).heap.size ≤ (w.alloc (.cells #[.int .i64 3, .int .i64 v, .int .i64 n, .int .i64 m, .slice a len cap] 40)).heap.size) := Nat.le_refl _
  clear h hcall
  go_enter Try.func20, Try.ntmps20
  go_wp2
  go_region_held3 (fun W => W.cell? ⟨w.heap.size, 1, none⟩ = some (.int .i64 v) ∧ W.cell? ⟨w.heap.size, 2, none⟩ = some (.int .i64 n)) (first | (exact ⟨by assumption, by assumption⟩) | go_keep) (first
    | (go_at_call 19; go_loud (refine (HC.out _ he).mono ?_; rintro e w7 ⟨rfl, S2, he2, hw2⟩; have hS1 := (hw2.cellOf (i := 1) (Nat.lt_of_lt_of_le (by simp) HSZ.out) hSb.out).trans hS1; have hS2 := (hw2.cellOf (i := 2) (Nat.lt_of_lt_of_le (by simp) HSZ.out) hSb.out).trans hS2; replace hw := hw.trans hw2; clear he hw2)))
  all_goals
    go_wp2
    go_ret2
    exact ⟨rfl, S2, he2, hw⟩

set_option maxRecDepth 100000 in
set_option maxHeartbeats 1600000 in
theorem written_lap (err z : Int) (s2 : Es) (v n m : Int) (a : Option Addr) (len cap : Nat) (S : Nat → Prop) (p : Nat) (s : Es) (w : World) (h : Wd S p s w)
    (hcall : ∀ W : World, Wd S p s W → Calls Try.prog 12 #[.pointer (some ⟨p, 0, none⟩), .int .i64 v, .int .i64 n, .int .i64 m] W fun e w' => e = .returned (.tuple #[.int .i64 z, .int .i64 err]) ∧ ∃ S', Wd S' p s2 w' ∧ Went S W S' w') :
    Calls Try.prog 20 #[.pointer (some ⟨p, 0, none⟩), .agg #[.int .i64 4, .int .i64 v, .int .i64 n, .int .i64 m, .slice a len cap]] w fun e w' => e = .returned (.tuple #[.int .i64 z, .int .i64 err]) ∧ ∃ S', Wd S' p s2 w' ∧ Went S w S' w' := by
  have HC : Hid (∀ W : World, Wd S p s W → Calls Try.prog 12 #[.pointer (some ⟨p, 0, none⟩), .int .i64 v, .int .i64 n, .int .i64 m] W fun e w' => e = .returned (.tuple #[.int .i64 z, .int .i64 err]) ∧ ∃ S', Wd S' p s2 w' ∧ Went S W S' w') := hcall
  have hSb : Hid (¬ S w.heap.size) := fun hs => Nat.lt_irrefl _ (h.lt _ hs)
  have hw := ((Went.refl S w).alloc (.cells #[.int .i64 4, .int .i64 v, .int .i64 n, .int .i64 m, .slice a len cap] 40))
  have he := (h.keep ((Below.refl w.heap.size w).alloc (Nat.le_refl _) (.cells #[.int .i64 4, .int .i64 v, .int .i64 n, .int .i64 m, .slice a len cap] 40)))
  have hS1 : (w.alloc (.cells #[.int .i64 4, .int .i64 v, .int .i64 n, .int .i64 m, .slice a len cap] 40)).cell? ⟨w.heap.size, 1, none⟩ = some (.int .i64 v) := by show (w.alloc _).cell? _ = _; rw [World.cell?_alloc_new]; rfl
  have hS2 : (w.alloc (.cells #[.int .i64 4, .int .i64 v, .int .i64 n, .int .i64 m, .slice a len cap] 40)).cell? ⟨w.heap.size, 2, none⟩ = some (.int .i64 n) := by show (w.alloc _).cell? _ = _; rw [World.cell?_alloc_new]; rfl
  have hS3 : (w.alloc (.cells #[.int .i64 4, .int .i64 v, .int .i64 n, .int .i64 m, .slice a len cap] 40)).cell? ⟨w.heap.size, 3, none⟩ = some (.int .i64 m) := by show (w.alloc _).cell? _ = _; rw [World.cell?_alloc_new]; rfl
  have HSZ : Hid (w.heap.size < (w.alloc (.cells #[.int .i64 4, .int .i64 v, .int .i64 n, .int .i64 m, .slice a len cap] 40)).heap.size) := by show w.heap.size < (w.alloc _).heap.size; simp
  clear h hcall
  go_enter Try.func20, Try.ntmps20
  go_wp2_with (go_at_call 12; go_loud (refine (HC.out _ he).mono ?_; rintro e w7 ⟨rfl, S2, he2, hw2⟩; replace hw := hw.trans hw2; clear he hw2))
  go_ret2
  exact ⟨rfl, S2, he2, hw⟩

set_option maxRecDepth 100000 in
set_option maxHeartbeats 1600000 in
theorem written_icdf (err : Int) (s2 : Es) (op v n m : Int) (a : Option Addr) (len cap : Nat) (S : Nat → Prop) (p : Nat) (s : Es) (w : World) (h : Wd S p s w) (hop : op ≠ 0 ∧ op ≠ 1 ∧ op ≠ 2 ∧ op ≠ 3 ∧ op ≠ 4)
    (hcall : ∀ (W : World) (xo : Option Addr) (k c : Nat), Wd S p s W → RowAt W xo k (icdfL n) → k ≤ 17 → Calls Try.prog 16 #[.pointer (some ⟨p, 0, none⟩), .int .i64 v, .slice xo k c] W fun e w' => CallEnds S p s2 W e w' err) :
    Calls Try.prog 20 #[.pointer (some ⟨p, 0, none⟩), .agg #[.int .i64 op, .int .i64 v, .int .i64 n, .int .i64 m, .slice a len cap]] w fun e w' => e = .returned (.tuple #[.int .i64 v, .int .i64 err]) ∧ ∃ S', Wd S' p s2 w' ∧ Went S w S' w' := by
  have HC : Hid (∀ (W : World) (xo : Option Addr) (k c : Nat), Wd S p s W → RowAt W xo k (icdfL n) → k ≤ 17 → Calls Try.prog 16 #[.pointer (some ⟨p, 0, none⟩), .int .i64 v, .slice xo k c] W fun e w' => CallEnds S p s2 W e w' err) := hcall
  have hSb : Hid (¬ S w.heap.size) := fun hs => Nat.lt_irrefl _ (h.lt _ hs)
  have hw := ((Went.refl S w).alloc (.cells #[.int .i64 op, .int .i64 v, .int .i64 n, .int .i64 m, .slice a len cap] 40)).drew
  have he := (h.keep ((Below.refl w.heap.size w).alloc (Nat.le_refl _) (.cells #[.int .i64 op, .int .i64 v, .int .i64 n, .int .i64 m, .slice a len cap] 40))).drew
  have hS1 : (w.alloc (.cells #[.int .i64 op, .int .i64 v, .int .i64 n, .int .i64 m, .slice a len cap] 40)).drew.cell? ⟨w.heap.size, 1, none⟩ = some (.int .i64 v) := by show (w.alloc _).cell? _ = _; rw [World.cell?_alloc_new]; rfl
  have hS2 : (w.alloc (.cells #[.int .i64 op, .int .i64 v, .int .i64 n, .int .i64 m, .slice a len cap] 40)).drew.cell? ⟨w.heap.size, 2, none⟩ = some (.int .i64 n) := by show (w.alloc _).cell? _ = _; rw [World.cell?_alloc_new]; rfl
  have n0 : (op == 0) = false := beq_eq_false_iff_ne.2 hop.1
  have n1 : (op == 1) = false := beq_eq_false_iff_ne.2 hop.2.1
  have n2 : (op == 2) = false := beq_eq_false_iff_ne.2 hop.2.2.1
  have n3 : (op == 3) = false := beq_eq_false_iff_ne.2 hop.2.2.2.1
  have n4 : (op == 4) = false := beq_eq_false_iff_ne.2 hop.2.2.2.2
  clear h hcall hop
  go_enter Try.func20, Try.ntmps20
  go_wp2
  go_region_held3 (fun W => W.cell? ⟨w.heap.size, 1, none⟩ = some (.int .i64 v) ∧ W.cell? ⟨w.heap.size, 2, none⟩ = some (.int .i64 n)) (first | (exact ⟨by assumption, by assumption⟩) | go_keep) (first
    | (go_at_call 17; go_loud (refine (ricdf_row n _).mono ?_; rintro e w1 ⟨a1, m1, cap1, rfl, ht1, _, hm1, hb1⟩; have hz1 : w.heap.size < w1.heap.size := Nat.lt_of_lt_of_le (by simp) hb1.size; have hS1 := (hb1.cell (p := ⟨w.heap.size, 1, none⟩) (by simp)).trans hS1; have hS2 := (hb1.cell (p := ⟨w.heap.size, 2, none⟩) (by simp)).trans hS2; replace he := he.keep hb1; replace hw := hw.keep hb1; clear hb1))
    | (go_at_call 16; go_loud (refine (HC.out _ _ _ _ he ht1 hm1).mono ?_; rintro e w7 ⟨rfl, S2, he2, hw2⟩; have hS1 := (hw2.cellOf (i := 1) hz1 hSb.out).trans hS1; have hS2 := (hw2.cellOf (i := 2) hz1 hSb.out).trans hS2; replace hw := hw.trans hw2; clear he hw2)))
  all_goals
    go_wp2
    go_ret2
    exact ⟨rfl, S2, he2, hw⟩

/-- The call that writes one thing, whatever is asked for. -/
theorem written_any (op v n m : Int) (a : Option Addr) (len cap : Nat) (t : List Int) (S : Nat → Prop) (p : Nat) (s : Es) (w : World) (h : Wd S p s w) (hi : InvE s) (hc : s.cnt ≤ 100000000000000) (hx : Asked w op v n m a len cap t) :
    Calls Try.prog 20 #[.pointer (some ⟨p, 0, none⟩), .agg #[.int .i64 op, .int .i64 v, .int .i64 n, .int .i64 m, .slice a len cap]] w fun e w' => WroteSo ⟨op, v, n, m, t⟩ S p s w e w' := by
  have hlen : len ≤ 9223372036854775807 := by have := hx.size; omega
  have good : ∀ {Z : Int} {s2 : Es}, (mayA ⟨op, v, n, m, t⟩ → (wrA ⟨op, v, n, m, t⟩).v = Z ∧ writeA ⟨op, v, n, m, t⟩ s = s2) → mayA ⟨op, v, n, m, t⟩ → ∀ e w', (e = .returned (.tuple #[.int .i64 Z, .int .i64 0]) ∧ ∃ S', Wd S' p s2 w' ∧ Went S w S' w') → WroteSo ⟨op, v, n, m, t⟩ S p s w e w' := fun h1 hm e w' h2 => by
    obtain ⟨k1, k2⟩ := h1 hm
    exact ⟨fun _ => by rw [k1, k2]; exact h2, fun hn => absurd hm hn⟩
  have bad : ∀ (Z : Int), ¬ mayA ⟨op, v, n, m, t⟩ → ∀ e w', (e = .returned (.tuple #[.int .i64 Z, .int .i64 1]) ∧ ∃ S', Wd S' p s w' ∧ Went S w S' w') → WroteSo ⟨op, v, n, m, t⟩ S p s w e w' := fun Z hn e w' h2 =>
    ⟨fun hm => absurd hm hn, fun _ => ⟨⟨Z, h2.1⟩, h2.2⟩⟩
  by_cases h0 : op = 0
  · subst h0
    have hm : mayA ⟨0, v, n, m, t⟩ = symOk t v := if_pos rfl
    by_cases ho : symOk t v
    · exact (written_sym 0 _ v n m a len cap t S p s w h hx fun W xo c h1 h2 => symE_int S p s v xo len c t W h1 hi h2 hlen ho (by omega)).mono (good (fun _ => ⟨rfl, rfl⟩) (by rw [hm]; exact ho))
    · exact (written_sym 1 s v n m a len cap t S p s w h hx fun W xo c h1 h2 => symE_bad S p s v xo len c t W h1 h2 hlen ho).mono (bad v (by rw [hm]; exact ho))
  by_cases h1 : op = 1
  · subst h1
    have hm : mayA ⟨1, v, n, m, t⟩ = (1 ≤ n ∧ n ≤ 15) := by unfold mayA; simp
    by_cases ho : 1 ≤ n ∧ n ≤ 15
    · exact (written_flag 0 _ v n m a len cap S p s w h fun W h1 => flagE_int S p s (decide (v % 2 = 1)) n W h1 hi ho (by omega)).mono (good (fun _ => ⟨rfl, rfl⟩) (by rw [hm]; exact ho))
    · exact (written_flag 1 s v n m a len cap S p s w h fun W h1 => flagE_bad S p s (decide (v % 2 = 1)) n W h1 ho).mono (bad (v % 2) (by rw [hm]; exact ho))
  by_cases h2 : op = 2
  · subst h2
    have hm : mayA ⟨2, v, n, m, t⟩ = (0 ≤ n ∧ n ≤ 24 ∧ 0 ≤ v ∧ v.toNat < 2 ^ n.toNat) := by unfold mayA; simp
    by_cases ho : 0 ≤ n ∧ n ≤ 24 ∧ 0 ≤ v ∧ v.toNat < 2 ^ n.toNat
    · exact (written_bits 0 _ v n m a len cap S p s w h fun W h1 => bitsE_int S p s v n W h1 hi ho (by omega)).mono (good (fun _ => ⟨rfl, rfl⟩) (by rw [hm]; exact ho))
    · exact (written_bits 1 s v n m a len cap S p s w h fun W h1 => bitsE_bad S p s v n W h1 ho).mono (bad v (by rw [hm]; exact ho))
  by_cases h3 : op = 3
  · subst h3
    have hm : mayA ⟨3, v, n, m, t⟩ = (1 ≤ n ∧ n ≤ 4294967295 ∧ 0 ≤ v ∧ v < n) := by unfold mayA; simp
    by_cases ho : 1 ≤ n ∧ n ≤ 4294967295 ∧ 0 ≤ v ∧ v < n
    · exact (written_uint 0 _ v n m a len cap S p s w h fun W h1 => uintE_int S p s v n W h1 hi ho (by omega)).mono (good (fun _ => ⟨rfl, rfl⟩) (by rw [hm]; exact ho))
    · exact (written_uint 1 s v n m a len cap S p s w h fun W h1 => uintE_bad S p s v n W h1 ho).mono (bad v (by rw [hm]; exact ho))
  by_cases h4 : op = 4
  · subst h4
    have hm : mayA ⟨4, v, n, m, t⟩ = lapOk n m := by unfold mayA; simp
    by_cases ho : lapOk n m
    · exact (written_lap 0 _ _ v n m a len cap S p s w h fun W h1 => lapWE_int S p s v n m W h1 hi ho hx.bv (by omega)).mono (good (fun _ => ⟨rfl, rfl⟩) (by rw [hm]; exact ho))
    · exact (written_lap 1 0 s v n m a len cap S p s w h fun W h1 => lapWE_bad S p s v n m W h1 ho).mono (bad 0 (by rw [hm]; exact ho))
  · have hm : mayA ⟨op, v, n, m, t⟩ = symOk (icdfL n) v := by unfold mayA; simp only [if_neg h0, if_neg h1, if_neg h2, if_neg h3, if_neg h4]
    have e1 : (wrA ⟨op, v, n, m, t⟩).v = v := by show (if op = 1 then _ else if op = 4 then _ else v) = v; rw [if_neg h1, if_neg h4]
    have e2 : writeA ⟨op, v, n, m, t⟩ s = takeE s (symFl (icdfL n) v.toNat) (symFh (icdfL n) v.toNat) 256 := by unfold writeA; simp only [if_neg h0, if_neg h1, if_neg h2, if_neg h3, if_neg h4]
    by_cases ho : symOk (icdfL n) v
    · exact (written_icdf 0 _ op v n m a len cap S p s w h ⟨h0, h1, h2, h3, h4⟩ fun W xo k c h1 h2 h3 => symE_int S p s v xo k c (icdfL n) W h1 hi h2 (by omega) ho (by omega)).mono (good (fun _ => ⟨e1, e2⟩) (by rw [hm]; exact ho))
    · exact (written_icdf 1 s op v n m a len cap S p s w h ⟨h0, h1, h2, h3, h4⟩ fun W xo k c h1 h2 h3 => symE_bad S p s v xo k c (icdfL n) W h1 h2 (by omega) ho).mono (bad v (by rw [hm]; exact ho))

end Go.Proofs.Ytinjkffkkmbioaa
