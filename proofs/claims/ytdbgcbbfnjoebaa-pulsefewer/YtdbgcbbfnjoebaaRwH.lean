/- The program's writer: the bytes are told. -/
import Derived.Test.YtdbgcbbfnjoebaaRwG
import Derived.Laws.CopyOwn
namespace Go.Proofs.Ytdbgcbbfnjoebaa
open Go.RowKit

theorem doneE_arg (S : Nat → Prop) (p : Nat) (s : Es) (n : Int) (w : World) (_h : Wd S p s w) (hn : ¬ (0 ≤ n ∧ n ≤ 1275)) :
    Calls Try.prog 23 #[.pointer (some ⟨p, 0, none⟩), .int .i64 n] w fun e w' => e = .returned (.tuple #[.slice none 0 0, .int .i64 1]) ∧ w' = w := by
  by_cases h1 : n < 0
  · clear hn
    go_enter Try.func23, Try.ntmps23
    go_wp2
    go_ret2
    exact ⟨rfl, rfl⟩
  · have h2 : 1275 < n := by omega
    clear hn
    go_enter Try.func23, Try.ntmps23
    go_wp2
    go_ret2
    exact ⟨rfl, rfl⟩

theorem doneE_few (S : Nat → Prop) (p : Nat) (s : Es) (n : Nat) (w : World) (h : Wd S p s w) (hi : InvE s) (hn : n ≤ 1275) (ht : 8 * (n : Int) < tellS s) (hc : s.cnt ≤ 1000000000000000) :
    Calls Try.prog 23 #[.pointer (some ⟨p, 0, none⟩), .int .i64 n] w fun e w' => e = .returned (.tuple #[.slice none 0 0, .int .i64 2]) ∧ ∃ k, w' = w.drewN k := by
  have HH : Hid (Wd S p s w) := h
  have i1 := hi.wide
  have i2 := hi.pre.rhigh
  have hnI : (n : Int) ≤ 1275 := by omega
  have ht2 : tellS s ≤ 2000000000000000 := by unfold tellS; omega
  clear h hi
  generalize hT : tellS s = T at *
  have HT : Hid (tellS s = T) := hT
  clear hT
  go_enter Try.func23, Try.ntmps23
  go_wp2_with (go_at_call 15; refine (tellE_any S p s _ HH.out i1 i2 (by omega)).mono ?_; rw [HT.out]; rintro e w' ⟨rfl, k, rfl⟩)
  go_ret2
  exact ⟨rfl, _, rfl⟩

theorem made_list (z : Value) (n : Nat) : madeCells #[z] n = (List.replicate n z).toArray := by
  apply Array.ext
  · simp [madeCells]
  · intro i h1 h2
    simp [madeCells, Nat.mod_one]

theorem bvals_at (bs : List Nat) (j : Nat) : (bvals bs)[j]? = if j < bs.length then some (.int .u8 (byteAt bs j)) else none := by
  unfold bvals
  rw [List.getElem?_map]
  by_cases h : j < bs.length
  · rw [if_pos h, byteAt, List.getElem?_eq_getElem h]; rfl
  · rw [if_neg h, List.getElem?_eq_none (by omega)]; rfl

/-- The row behind a copy of the bytes into noughts. -/
theorem copied_row {w : World} {q n : Nat} {bs : List Nat} (hl : bs.length ≤ n) (h : w.heap[q]? = some (.cells (splice (List.replicate n (Value.int .u8 0)) 0 (bvals bs)).toArray 5 (0, 0))) :
    w.rowIs q 5 n (fun j => .int .u8 (if j < bs.length then byteAt bs j else 0 : Nat)) := by
  refine ⟨_, h, ?_, fun i hi => ?_⟩
  · simp [splice, bvals]; omega
  · simp only [splice, List.take_zero, List.nil_append, Nat.zero_add, List.getElem?_toArray]
    rcases Nat.lt_or_ge i bs.length with h1 | h1
    · rw [List.getElem?_append_left (by simpa [bvals] using h1), bvals_at, if_pos h1, if_pos h1]
    · rw [List.getElem?_append_right (by simpa [bvals] using h1), if_neg (by omega)]
      have hb : (bvals bs).length = bs.length := by simp [bvals]
      rw [hb, List.getElem?_drop, List.getElem?_replicate, if_pos (by omega)]
      rfl

theorem size_u8 : (Try.prog.info? 5).map (·.size) = some 1 := by kernel_rfl

/-- 'copy' of bytes into noughts that have just been made. -/
theorem copy_front (W : World) (q n : Nat) (hq : W.heap[q]? = some (.cells (madeCells #[Value.int .u8 0] n) 5 (0, 0))) (bs : List Nat) (hl : bs.length ≤ n) (fa : Option Addr) (fcap : Nat)
    (hsrc : 0 < (bvals bs).length → ∃ ad, fa = some ad ∧ ∀ j v, (bvals bs)[j]? = some v → W.cell? (ad.add j) = some v) :
    ∃ W', (Builtin.copy_ #[35, 35] 3 #[.slice (some ⟨q, 0, none⟩) n n, .slice fa bs.length fcap]).run Try.prog W = .ok (.int .i64 bs.length) W' ∧
      W'.rowIs q 5 n (fun j => .int .u8 (if j < bs.length then byteAt bs j else 0 : Nat)) ∧ But q W W' := by
  have hb : (bvals bs).length = bs.length := by simp [bvals]
  rw [made_list] at hq
  by_cases h0 : bs.length = 0
  · have hbs : bs = [] := List.eq_nil_of_length_eq_zero h0
    subst hbs
    refine ⟨W, ?_, ?_, But.refl _ _⟩
    · have := run_copy_none (P := Try.prog) W 35 35 3 5 (some ⟨q, 0, none⟩) fa n n 0 fcap Try.underlying35 size_u8 (Nat.zero_min n)
      exact this
    · exact copied_row (bs := []) (Nat.zero_le n) (by simpa [splice, bvals] using hq)
  · obtain ⟨ad, rfl, hc⟩ := hsrc (by omega)
    have hrun := run_copy_row (P := Try.prog) W 35 35 3 5 q 0 n n ad bs.length fcap (List.replicate n (Value.int .u8 0)).toArray 5 (bvals bs) Try.underlying35 size_u8 hq
      (by rw [hb]; exact (Nat.min_eq_left hl).symm) hc (by simp [hb]; omega) (by intro u hu; obtain ⟨x, _, rfl⟩ := List.mem_map.1 hu; rfl)
    refine ⟨W.setRow q ((List.replicate n (Value.int .u8 0)).toArray.toList.take 0 ++ bvals bs ++ (List.replicate n (Value.int .u8 0)).toArray.toList.drop (0 + (bvals bs).length)).toArray, hrun.trans ?_, ?_, ⟨rfl, rfl, rfl, by simp, fun k hk => setRow_other W q k _ hk⟩⟩
    · rw [hb]; rfl
    · refine copied_row hl ?_
      have := setRow_heap W q (List.replicate n (Value.int .u8 0)).toArray ((List.replicate n (Value.int IntKind.u8 0)).toArray.toList.take 0 ++ bvals bs ++ (List.replicate n (Value.int IntKind.u8 0)).toArray.toList.drop (0 + (bvals bs).length)).toArray 5 (0, 0) hq
      simpa [splice] using this

theorem front_src {S : Nat → Prop} {p : Nat} {w : World} {a : Option Addr} {cap : Nat} {bs : List Nat} (h : RowOf S p w (.slice a bs.length cap) bs) {W : World} (hb : Below w.heap.size w W) : 0 < (bvals bs).length → ∃ ad, a = some ad ∧ ∀ j v, (bvals bs)[j]? = some v → W.cell? (ad.add j) = some v := fun h0 => by
  have hl : (bvals bs).length = bs.length := by simp [bvals]
  obtain ⟨_, h1 | ⟨g, cap', cur, hv, _, hh, hc, hm, hs, ht⟩⟩ := h.owns
  · have := h1.2; omega
  · cases hv
    refine ⟨_, rfl, fun j v hj => ?_⟩
    obtain ⟨_, _, f, hr, hf⟩ := cells_of_owned h.owns
    rw [bvals_at] at hj
    split at hj
    · rename_i hjl
      cases hj
      rw [Addr.add_lit, Nat.zero_add]
      have h2 := hr.cell (i := j) (by omega)
      rw [hf j hjl] at h2
      exact (hb.cell (p := ⟨g, j, none⟩) (World.block_lt_of_cell? w _ h2)).trans h2
    · cases hj

/-- The bytes from the beginning, i of those behind it laid already. -/
def loopF (s : Es) (i j : Nat) : Nat := if j < s.front.length + i then baseF s j else 0
def topF (s : Es) (n j : Nat) : Nat := if j + s.back.length < n then baseF s j else 0
/-- And k of those from the end. -/
def backF (s : Es) (n k j : Nat) : Nat := if j + k < n then topF s n j else byteAt s.back (n - 1 - j)

def BRow (w : World) (q n : Nat) (F : Nat → Nat) : Prop := w.rowIs q 5 n (fun j => .int .u8 (F j : Nat))

theorem BRow.store {w : World} {q n : Nat} {F G : Nat → Nat} (h : BRow w q n F) (i : Nat) {z : Int} (hz : z = (G i : Nat)) (he : ∀ j, j < n → j ≠ i → F j = G j) : BRow (w.setCell ⟨q, i, none⟩ (.int .u8 z)) q n G := by
  refine (World.rowIs.set h i _).congr fun j hj => ?_
  show (if j = i then _ else Value.int .u8 (F j : Nat)) = _
  by_cases h1 : j = i
  · rw [if_pos h1, hz, h1]
  · rw [if_neg h1, he j hj h1]

theorem BRow.congr {w : World} {q n : Nat} {F G : Nat → Nat} (h : BRow w q n F) (he : ∀ j, j < n → F j = G j) : BRow w q n G := World.rowIs.congr h fun j hj => by rw [he j hj]

theorem base_one {s : Es} {n : Nat} (he : Ends s n) (hm : openE s ≠ 22) : ∀ j, s.front.length + 1 ≤ j → baseF s j = 0 := fun j hj => by
  have ho := he.open_
  unfold baseF
  rw [if_neg (by omega), if_neg (by omega)]
  split
  · have := endE_dvd s (k := 23) (by omega)
    have h8 : (2 : Nat) ^ 23 = 8388608 := by decide
    rw [h8] at this
    omega
  · rfl

theorem base_two {s : Es} : ∀ j, s.front.length + 2 ≤ j → baseF s j = 0 := fun j hj => by
  unfold baseF
  rw [if_neg (by omega), if_neg (by omega), if_neg (by omega)]

theorem loop_top {s : Es} {n I : Nat} (he : Ends s n) (h : (openE s = 22 ∧ I = 2) ∨ (openE s ≠ 22 ∧ I = 1)) (j : Nat) : loopF s I j = topF s n j := by
  have hd := he.deep
  unfold loopF topF
  rcases h with ⟨h1, rfl⟩ | ⟨h1, rfl⟩
  · have := hd.2 h1
    by_cases h2 : j < s.front.length + 2
    · rw [if_pos h2, if_pos (by omega)]
    · rw [if_neg h2]
      split
      · exact (base_two j (by omega)).symm
      · rfl
  · by_cases h2 : j < s.front.length + 1
    · rw [if_pos h2, if_pos (by omega)]
    · rw [if_neg h2]
      split
      · exact (base_one he h1 j (by omega)).symm
      · rfl

theorem base_first {s : Es} : baseF s s.front.length = endE s / 8388608 % 256 := by unfold baseF; rw [if_neg (by omega), if_pos rfl]
theorem base_second {s : Es} : baseF s (s.front.length + 1) = endE s / 32768 % 256 := by unfold baseF; rw [if_neg (by omega), if_neg (by omega), if_pos rfl]

theorem or_u8 (a b : Nat) (ha : a < 256) (hb : b < 256) : bits .or .u8 (a : Int) (b : Int) = ((a ||| b : Nat) : Int) := by
  have hx : a ||| b < 2 ^ 8 := Nat.or_lt_two_pow (by omega) (by omega)
  have e : ∀ n : Nat, n < 256 → (BitVec.ofInt 8 (n : Int)).toNat = n := fun n h => by
    rw [BitVec.ofInt_natCast, BitVec.toNat_ofNat]
    exact Nat.mod_eq_of_lt (by omega)
  show IntKind.u8.wrap ((BitVec.ofInt 8 (a : Int) ||| BitVec.ofInt 8 (b : Int)).toNat : Int) = _
  rw [BitVec.toNat_or, e a ha, e b hb, IntKind.wrap_u8]
  omega

/-- What waits is put into its byte. -/
theorem or_last {s : Es} {n t : Nat} (he : Ends s n) (ht : t + s.back.length + 1 = n) : bits .or .u8 ((doneF s n t : Nat) : Int) ((s.wait : Int) % 256) = (finalF s n t : Nat) := by
  have e1 : doneF s n t = baseF s t := if_pos (by omega)
  have e2 : finalF s n t = doneF s n t + s.wait := if_pos ht
  have h1 := he.mod_last
  rw [show n - s.back.length - 1 = t by omega] at h1
  have h2 := baseF_lt he t
  have h3 := he.inv.pre.wait
  have hw : s.wait < 128 := by
    have h5 : 2 ^ s.waiting ≤ 2 ^ 7 := Nat.pow_le_pow_right (by decide) (by have := he.inv.few; omega)
    omega
  rw [show (s.wait : Int) % 256 = (s.wait : Int) by omega, e2, e1, or_u8 _ _ h2 (by omega), Nat.or_comm]
  have h6 := Nat.div_add_mod (baseF s t) (2 ^ s.waiting)
  rw [h1, Nat.add_zero, Nat.mul_comm] at h6
  rw [← h6, or_shift _ _ _ h3, Nat.add_comm]

theorem owns_from {w : World} {g n cap B : Nat} {e : TypeId} {z : Nat} {xs : List Value} (h : w.ownsRow 0 e z (.slice (some ⟨g, 0, none⟩) n cap) n xs) (hB : B ≤ g) : w.ownsRow B e z (.slice (some ⟨g, 0, none⟩) n cap) n xs := by
  obtain ⟨hl, h1 | ⟨g', cap', cur, hv, _, hrest⟩⟩ := h
  · cases h1.1
  · cases hv
    exact ⟨hl, .inr ⟨g, cap, cur, rfl, hB, hrest⟩⟩

theorem wrap_u8_quot (x k : Nat) (_h : x ≤ 4294967296) : IntKind.u8.wrap ((x : Int) / (k : Int)) = (x / k % 256 : Nat) := by
  rw [IntKind.wrap_u8, ← Int.natCast_ediv]
  omega

set_option maxRecDepth 100000 in
set_option maxHeartbeats 3200000 in
theorem doneE_any (S : Nat → Prop) (p : Nat) (s : Es) (n : Nat) (w : World) (h : Wd S p s w) (he : Ends s n) (ht : tellS s ≤ 8 * (n : Int)) (hc : s.cnt ≤ 1000000000000000) :
    Calls Try.prog 23 #[.pointer (some ⟨p, 0, none⟩), .int .i64 n] w fun e w' => ∃ a cap, e = .returned (.tuple #[.slice a n cap, .int .i64 0]) ∧ w'.ownsRow w.heap.size 5 1 (.slice a n cap) n (bvals (doneL s n)) ∧ Below w.heap.size w w' := by
  have HH : Hid (∀ k, Wd S p s (w.drewN k)) := fun k => h.drewN k
  have i1 := he.inv.wide
  have i2 := he.inv.pre.rhigh
  have hn : n ≤ 1275 := he.few
  have hnI : (n : Int) ≤ 1275 := by omega
  have hdeep := he.deep
  have ht2 : tellS s ≤ 2000000000000000 := by unfold tellS; omega
  have ht1 : -100 ≤ tellS s := by have := lenN_in i1 i2; unfold tellS; omega
  obtain ⟨fv, bv, hw⟩ := h
  obtain ⟨fa, fcap, rfl, fn1, fn2⟩ := hw.front.form
  obtain ⟨ba, bcap, rfl, bn1, bn2⟩ := hw.back.form
  obtain ⟨q0, q1, q2, q3, q4, q5, q6, qf⟩ := hw.fields
  have HW : Hid (We S p (.slice fa s.front.length fcap) (.slice ba s.back.length bcap) s w) := hw
  have HE : Hid (Ends s n) := he
  have hmk := fun W : World => run_make_row' (P := Try.prog) 35 5 (.int .u8 0) 1 Try.underlying35 info_uint8 rfl .i64 .i64 n (by omega) (by omega) W
  have HPZ : Hid (p < w.heap.size) := HW.out.size
  have HA : ∀ k o, ((w.drewN k).alloc o).cell? ⟨p, 0, none⟩ = some (.slice fa s.front.length fcap) := fun k o => (World.cell?_of_block (w := w.drewN k) (Below.heap_alloc (w.drewN k) o p HPZ.out)).trans q0
  have hex : ∀ k, ∃ W', (Builtin.copy_ #[35, 35] 3 #[.slice (some ⟨w.heap.size, 0, none⟩) n n, .slice fa s.front.length fcap]).run Try.prog ((w.drewN k).alloc (.cells (madeCells #[Value.int .u8 0] n) 5)) = .ok (.int .i64 s.front.length) W' ∧
      W'.rowIs w.heap.size 5 n (fun j => .int .u8 (if j < s.front.length then byteAt s.front j else 0 : Nat)) ∧ But w.heap.size ((w.drewN k).alloc (.cells (madeCells #[Value.int .u8 0] n) 5)) W' := fun k =>
    copy_front _ w.heap.size n (heap_alloc_new (w.drewN k) _) s.front (by omega) fa fcap (front_src HW.out.front ((Below.drewN (Below.refl w.heap.size w) k).alloc (Nat.le_refl _) _))
  obtain ⟨W2, hW2⟩ := Classical.skolem.1 hex
  have hcp := fun k => (hW2 k).1
  have HR2 : Hid (∀ k, (W2 k).rowIs w.heap.size 5 n (fun j => .int .u8 (if j < s.front.length then byteAt s.front j else 0 : Nat)) ∧ Below w.heap.size w (W2 k)) := fun k =>
    ⟨(hW2 k).2.1, ((Below.drewN (Below.refl w.heap.size w) k).alloc (Nat.le_refl _) _).trans ((hW2 k).2.2.below (Nat.le_refl _))⟩
  clear hex hW2
  generalize hT : tellS s = T at *
  have HT : Hid (tellS s = T) := hT
  have HL3 : Hid (s.low ≤ 4294967296) := by have := he.inv.pre.low; show _ ≤ _; omega
  clear hT hw he fn1 fn2 bn1 bn2
  by_cases hce : 2147483648 ≤ endE s
  · have hceI : ((2147483648 : Int) ≤ (endE s : Int)) = True := eq_true (by omega)
    have HCE : Hid (2147483648 ≤ endE s) := hce
    have HCR : Hid (preN s.front s.front.length + 1 < 256 ^ s.front.length) := HE.out.carry hce
    have HB0 : Hid (Bytes s.front) := HE.out.inv.pre.front
    have HHO : Hid (Holds (fun j => .int .u8 (if j < s.front.length then byteAt s.front j else 0 : Nat)) s.front.length s.front) := fun i hi => by show Value.int .u8 (if i < s.front.length then byteAt s.front i else 0 : Nat) = _; rw [if_pos hi]
    clear hce
    go_enter Try.func23, Try.ntmps23
    go_wp2_with (first
      | (go_at_call 15; refine (tellE_any S p s _ (HH.out 0) i1 i2 (by omega)).mono ?_; rw [HT.out]; rintro e w' ⟨rfl, k, rfl⟩)
      | (go_at_call 44; refine (ending_any S p s _ ((HH.out 0).keep (HR2.out k).2) i1 i2 HL3.out).mono ?_; rintro e w3 ⟨rfl, k3, rfl⟩)
      | (go_at_call 45; go_loud (refine (carry_run w.heap.size s.front.length n n _ s.front ((W2 k).drewN k3) (by omega) (by omega) (HR2.out k).1 HHO.out (Nat.le_refl _) HB0.out HCR.out).mono ?_; rintro e w4 ⟨rfl, hb4, hr4⟩)))
    have HC4 : Hid (BRow w4 w.heap.size n (loopF s 0) ∧ Below w.heap.size w w4) := by
      refine ⟨World.rowIs.congr hr4 fun j _ => ?_, (Below.drewN (HR2.out k).2 k3).trans (hb4.below (Nat.le_refl _))⟩
      have e1 : carriedEnd s = carryN s.front.length s.front := if_pos HCE.out
      unfold loopF baseF
      by_cases h1 : j < s.front.length
      · rw [if_pos h1, if_pos (by omega), if_pos h1, e1]
      · rw [if_neg h1, if_neg h1, if_neg (by omega)]
    clear hb4 hr4 HCR hcp HR2
    have hopen := HE.out.open_
    have HD2 : Hid (openE s = 22 → s.front.length + s.back.length + 2 ≤ n) := hdeep.2
    have hd1 := hdeep.1
    have hend : endE s ≤ 4294967296 := by have := HE.out.top; omega
    clear hdeep
    go_loopg [7, 10] 2 (fun g at_ left W => ∃ i : Nat, g + i = 2 ∧ at_ = .int .i64 ((s.front.length + i : Nat) : Int) ∧ left = .int .i64 (31 - 8 * (i : Int)) ∧ Hid (BRow W w.heap.size n (loopF s i) ∧ Below w.heap.size w W) ∧ Hid (i = 2 → openE s = 22))
    case atStart => exact ⟨0, rfl, by simp, rfl, HC4.out, fun h => absurd h (by decide)⟩
    case round =>
      obtain ⟨i, hgi, rfl, rfl, hr, hi2⟩ := hrel
      have HBR : Hid (BRow wr w.heap.size n (loopF s i) ∧ Below w.heap.size w wr) := hr
      have hfz : ∀ j, wr.frozen? ⟨w.heap.size, j, none⟩ = false := World.rowIs.frozen hr.out.1
      have h3 : i = 0 ∨ i = 1 ∨ i = 2 := by omega
      clear HC4
      by_cases hgo : i < 1 ∨ (i = 1 ∧ openE s = 22)
      · have hin : s.front.length + i < n := by
          rcases hgo with h | ⟨h, h4⟩
          · omega
          · have := HD2.out h4; omega
        have hcl : wr.cell? ⟨w.heap.size, s.front.length + i, none⟩ = some (.int .u8 (loopF s i (s.front.length + i) : Nat)) := World.rowIs.cell hr.out.1 hin
        have HST : Hid (∀ z : Int, z = (baseF s (s.front.length + i) : Nat) → BRow (wr.setCell ⟨w.heap.size, s.front.length + i, none⟩ (.int .u8 z)) w.heap.size n (loopF s (i + 1)) ∧ Below w.heap.size w (wr.setCell ⟨w.heap.size, s.front.length + i, none⟩ (.int .u8 z))) := fun z hz => by
          refine ⟨BRow.store HBR.out.1 (s.front.length + i) (by rw [hz]; unfold loopF; rw [if_pos (by omega)]) fun j _ hj => ?_, HBR.out.2.setCell (Nat.le_refl _) _⟩
          unfold loopF
          by_cases h : j < s.front.length + i
          · rw [if_pos h, if_pos (by omega)]
          · rw [if_neg h, if_neg (by omega)]
        clear hr hi2
        rcases hgo with h | ⟨h, h4⟩
        · obtain rfl : i = 0 := by omega
          have HZ : Hid ((endE s : Int) / 8388608 % 256 = (baseF s (s.front.length + 0) : Nat)) := by show _ = _; rw [Nat.add_zero, base_first]; omega
          rw [Nat.add_zero] at hcl hin
          clear h3 h
          go_wp2
          go_roundg 1
          case measure => omega
          case rel => exact ⟨1, rfl, by go_num, by go_num, HST.out _ HZ.out, fun h => absurd h (by decide)⟩
        · subst h
          have HZ : Hid ((endE s : Int) / 32768 % 256 = (baseF s (s.front.length + 1) : Nat)) := by show _ = _; rw [base_second]; omega
          have H4 : Hid (openE s = 22) := h4
          have h4I : (openE s : Int) = 22 := by omega
          have hiI : ((s.front.length + 1 : Nat) : Int) = (s.front.length : Int) + 1 := by omega
          clear h3
          go_wp2
          go_roundg 0
          case measure => omega
          case rel => exact ⟨2, rfl, by go_num, by go_num, HST.out _ HZ.out, fun _ => H4.out⟩
      · have HI : Hid ((openE s = 22 ∧ i = 2) ∨ (openE s ≠ 22 ∧ i = 1)) := by
          rcases h3 with h | h | h
          · omega
          · right; exact ⟨fun h4 => hgo (.inr ⟨h, h4⟩), h⟩
          · left; exact ⟨hi2.out h, h⟩
        have hstop : ((openE s : Int) < 31 - 8 * (i : Int)) = False := eq_false (by rcases HI.out with ⟨h, h4⟩ | ⟨h, h4⟩ <;> omega)
        have HTOP : Hid (BRow wr w.heap.size n (topF s n) ∧ Below w.heap.size w wr) := ⟨HBR.out.1.congr fun j _ => loop_top HE.out HI.out j, HBR.out.2⟩
        have v3 : wr.cell? ⟨p, 3, none⟩ = some (.slice ba s.back.length bcap) := (HBR.out.2.cell (p := ⟨p, 3, none⟩) HPZ.out).trans q3
        clear hr hi2 hgo h3 HBR hfz
        have HBK : Hid (∀ W, Below w.heap.size w W → ∀ k, k < s.back.length → ∃ gb, ba = some ⟨gb, 0, none⟩ ∧ W.cell? ⟨gb, k, none⟩ = some (.int .u8 (byteAt s.back k : Nat))) := fun W hb k hk => by
          obtain ⟨gb, cap', hv, _, _⟩ := HW.out.back.owns.form (by omega)
          cases hv
          obtain ⟨_, _, f, hr, hf⟩ := cells_of_owned HW.out.back.owns
          have h2 := hr.cell (i := k) (by omega)
          rw [hf k hk] at h2
          exact ⟨gb, rfl, (hb.cell (p := ⟨gb, k, none⟩) (World.block_lt_of_cell? w _ h2)).trans h2⟩
        have hlb : (s.back.length : Int) ≤ 1275 := by omega
        go_wp2
        go_loopg [63] s.back.length (fun g idx W => ∃ k : Nat, g + k = s.back.length ∧ idx = .int .i64 k ∧ Hid (BRow W w.heap.size n (backF s n k) ∧ Below w.heap.size w W))
        case atStart => exact ⟨0, rfl, rfl, HTOP.out.1.congr fun j hj => (by unfold backF; rw [if_pos (by omega)]), HTOP.out.2⟩
        case round =>
          obtain ⟨k5, hgk, rfl, hr⟩ := hrel
          have HBR : Hid (BRow wr w.heap.size n (backF s n k5) ∧ Below w.heap.size w wr) := hr
          have hfz : ∀ j, wr.frozen? ⟨w.heap.size, j, none⟩ = false := World.rowIs.frozen hr.out.1
          clear hr HTOP v3
          by_cases hlt : k5 < s.back.length
          · obtain ⟨gb, rfl, hbc⟩ := HBK.out wr HBR.out.2 k5 hlt
            obtain ⟨m, hm⟩ : ∃ m : Nat, m + k5 + 1 = n := ⟨n - 1 - k5, by omega⟩
            have hmI : (n : Int) - 1 - (k5 : Int) = (m : Int) := by omega
            have hmn : m < n := by omega
            have hcl : wr.cell? ⟨w.heap.size, m, none⟩ = some (.int .u8 (backF s n k5 m : Nat)) := World.rowIs.cell HBR.out.1 hmn
            have HST : Hid (BRow (wr.setCell ⟨w.heap.size, m, none⟩ (.int .u8 (byteAt s.back k5 : Nat))) w.heap.size n (backF s n (k5 + 1)) ∧ Below w.heap.size w (wr.setCell ⟨w.heap.size, m, none⟩ (.int .u8 (byteAt s.back k5 : Nat)))) := by
              refine ⟨BRow.store HBR.out.1 m (by unfold backF; rw [if_neg (by omega), show n - 1 - m = k5 by omega]) fun j hj hjm => ?_, HBR.out.2.setCell (Nat.le_refl _) _⟩
              unfold backF
              by_cases h : j + k5 < n
              · rw [if_pos h, if_pos (by omega)]
              · rw [if_neg h, if_neg (by omega)]
            have hlt2 : ((k5 : Int) < (s.back.length : Int)) = True := eq_true (by omega)
            have HM : Hid (m + k5 + 1 = n) := hm
            clear hm
            obtain ⟨g5, rfl⟩ : ∃ g5, gk = g5 + 1 := ⟨gk - 1, by omega⟩
            go_wp2
            go_roundg g5
            case measure => omega
            case rel => exact ⟨k5 + 1, by omega, by go_num, HST.out⟩
          · obtain rfl : k5 = s.back.length := by omega
            obtain ⟨t, ht9⟩ : ∃ t : Nat, t + s.back.length + 1 = n := ⟨n - 1 - s.back.length, by omega⟩
            have htI : (n : Int) - 1 - (s.back.length : Int) = (t : Int) := by omega
            have htn : t < n := by omega
            have v3 : wr.cell? ⟨p, 3, none⟩ = some (.slice ba s.back.length bcap) := (HBR.out.2.cell (p := ⟨p, 3, none⟩) HPZ.out).trans q3
            have v4 : wr.cell? ⟨p, 4, none⟩ = some (.int .i64 s.wait) := (HBR.out.2.cell (p := ⟨p, 4, none⟩) HPZ.out).trans q4
            have HDN : Hid (BRow wr w.heap.size n (doneF s n)) := HBR.out.1.congr fun j hj => by
              unfold backF doneF topF
              by_cases h : j + s.back.length < n
              · rw [if_pos h, if_pos h, if_pos h]
              · rw [if_neg h, if_neg h]
            have hcl : wr.cell? ⟨w.heap.size, t, none⟩ = some (.int .u8 (doneF s n t : Nat)) := World.rowIs.cell HDN.out htn
            have HOR : Hid (bits .or .u8 ((doneF s n t : Nat) : Int) (IntKind.u8.wrap (s.wait : Int)) = (finalF s n t : Nat)) := by
              show _ = _
              rw [IntKind.wrap_u8]
              exact or_last HE.out ht9
            have HFIN : Hid (∀ z : Int, z = (finalF s n t : Nat) → BRow (wr.setCell ⟨w.heap.size, t, none⟩ (.int .u8 z)) w.heap.size n (finalF s n) ∧ Below w.heap.size w (wr.setCell ⟨w.heap.size, t, none⟩ (.int .u8 z))) := fun z hz => by
              refine ⟨BRow.store HDN.out t hz fun j hj hjt => ?_, HBR.out.2.setCell (Nat.le_refl _) _⟩
              unfold finalF
              rw [if_neg (by omega)]
            have hstop2 : ((s.back.length : Int) < (s.back.length : Int)) = False := eq_false (by omega)
            have hw8 : IntKind.i64.wrap ((n : Int) - 1) = (n : Int) - 1 := by rw [IntKind.wrap_i64]; omega
            have hw9 : IntKind.i64.wrap ((t : Nat) : Int) = (t : Int) := by rw [IntKind.wrap_i64]; omega
            have htnI : (t : Int) < (n : Int) := by omega
            have ht0 : (0 : Int) ≤ (t : Int) := by omega
            clear ht9
            go_wp2
            go_region_with (fail)
            all_goals
              go_wp2
              go_ret2
              obtain ⟨f1, f2⟩ := HFIN.out _ HOR.out
              have hl9 := doneL_len s n
              have hr9 := owned_of_cells (bs := doneL s n) (cap := n) (by omega) (by unfold maxLen; omega) f1 (fun j hj => by rw [hl9] at hj; show Value.int .u8 (finalF s n j : Nat) = _; rw [doneL, byteAt_map _ hj])
              rw [hl9] at hr9
              exact ⟨some ⟨w.heap.size, 0, none⟩, n, rfl, (owns_from hr9 (Nat.le_refl _)).drew, f2.drew⟩
  · have hceI : ((2147483648 : Int) ≤ (endE s : Int)) = False := eq_false (by omega)
    have HCE : Hid (¬ 2147483648 ≤ endE s) := hce
    clear hce
    go_enter Try.func23, Try.ntmps23
    go_wp2_with (first
      | (go_at_call 15; refine (tellE_any S p s _ (HH.out 0) i1 i2 (by omega)).mono ?_; rw [HT.out]; rintro e w' ⟨rfl, k, rfl⟩)
      | (go_at_call 44; refine (ending_any S p s _ ((HH.out 0).keep (HR2.out k).2) i1 i2 HL3.out).mono ?_; rintro e w3 ⟨rfl, k3, rfl⟩))
    have HC4 : Hid (BRow ((W2 k).drewN k3) w.heap.size n (loopF s 0) ∧ Below w.heap.size w ((W2 k).drewN k3)) := by
      refine ⟨World.rowIs.congr (HR2.out k).1 fun j _ => ?_, Below.drewN (HR2.out k).2 k3⟩
      have e1 : carriedEnd s = s.front := if_neg HCE.out
      unfold loopF baseF
      by_cases h1 : j < s.front.length
      · rw [if_pos h1, if_pos (by omega), if_pos h1, e1]
      · rw [if_neg h1, if_neg (by omega)]
    clear hcp
    have hopen := HE.out.open_
    have HD2 : Hid (openE s = 22 → s.front.length + s.back.length + 2 ≤ n) := hdeep.2
    have hd1 := hdeep.1
    have hend : endE s ≤ 4294967296 := by have := HE.out.top; omega
    clear hdeep
    go_loopg [7, 10] 2 (fun g at_ left W => ∃ i : Nat, g + i = 2 ∧ at_ = .int .i64 ((s.front.length + i : Nat) : Int) ∧ left = .int .i64 (31 - 8 * (i : Int)) ∧ Hid (BRow W w.heap.size n (loopF s i) ∧ Below w.heap.size w W) ∧ Hid (i = 2 → openE s = 22))
    case atStart => exact ⟨0, rfl, by simp, rfl, HC4.out, fun h => absurd h (by decide)⟩
    case round =>
      obtain ⟨i, hgi, rfl, rfl, hr, hi2⟩ := hrel
      have HBR : Hid (BRow wr w.heap.size n (loopF s i) ∧ Below w.heap.size w wr) := hr
      have hfz : ∀ j, wr.frozen? ⟨w.heap.size, j, none⟩ = false := World.rowIs.frozen hr.out.1
      have h3 : i = 0 ∨ i = 1 ∨ i = 2 := by omega
      clear HC4
      by_cases hgo : i < 1 ∨ (i = 1 ∧ openE s = 22)
      · have hin : s.front.length + i < n := by
          rcases hgo with h | ⟨h, h4⟩
          · omega
          · have := HD2.out h4; omega
        have hcl : wr.cell? ⟨w.heap.size, s.front.length + i, none⟩ = some (.int .u8 (loopF s i (s.front.length + i) : Nat)) := World.rowIs.cell hr.out.1 hin
        have HST : Hid (∀ z : Int, z = (baseF s (s.front.length + i) : Nat) → BRow (wr.setCell ⟨w.heap.size, s.front.length + i, none⟩ (.int .u8 z)) w.heap.size n (loopF s (i + 1)) ∧ Below w.heap.size w (wr.setCell ⟨w.heap.size, s.front.length + i, none⟩ (.int .u8 z))) := fun z hz => by
          refine ⟨BRow.store HBR.out.1 (s.front.length + i) (by rw [hz]; unfold loopF; rw [if_pos (by omega)]) fun j _ hj => ?_, HBR.out.2.setCell (Nat.le_refl _) _⟩
          unfold loopF
          by_cases h : j < s.front.length + i
          · rw [if_pos h, if_pos (by omega)]
          · rw [if_neg h, if_neg (by omega)]
        clear hr hi2
        rcases hgo with h | ⟨h, h4⟩
        · obtain rfl : i = 0 := by omega
          have HZ : Hid ((endE s : Int) / 8388608 % 256 = (baseF s (s.front.length + 0) : Nat)) := by show _ = _; rw [Nat.add_zero, base_first]; omega
          rw [Nat.add_zero] at hcl hin
          clear h3 h
          go_wp2
          go_roundg 1
          case measure => omega
          case rel => exact ⟨1, rfl, by go_num, by go_num, HST.out _ HZ.out, fun h => absurd h (by decide)⟩
        · subst h
          have HZ : Hid ((endE s : Int) / 32768 % 256 = (baseF s (s.front.length + 1) : Nat)) := by show _ = _; rw [base_second]; omega
          have H4 : Hid (openE s = 22) := h4
          have h4I : (openE s : Int) = 22 := by omega
          have hiI : ((s.front.length + 1 : Nat) : Int) = (s.front.length : Int) + 1 := by omega
          clear h3
          go_wp2
          go_roundg 0
          case measure => omega
          case rel => exact ⟨2, rfl, by go_num, by go_num, HST.out _ HZ.out, fun _ => H4.out⟩
      · have HI : Hid ((openE s = 22 ∧ i = 2) ∨ (openE s ≠ 22 ∧ i = 1)) := by
          rcases h3 with h | h | h
          · omega
          · right; exact ⟨fun h4 => hgo (.inr ⟨h, h4⟩), h⟩
          · left; exact ⟨hi2.out h, h⟩
        have hstop : ((openE s : Int) < 31 - 8 * (i : Int)) = False := eq_false (by rcases HI.out with ⟨h, h4⟩ | ⟨h, h4⟩ <;> omega)
        have HTOP : Hid (BRow wr w.heap.size n (topF s n) ∧ Below w.heap.size w wr) := ⟨HBR.out.1.congr fun j _ => loop_top HE.out HI.out j, HBR.out.2⟩
        have v3 : wr.cell? ⟨p, 3, none⟩ = some (.slice ba s.back.length bcap) := (HBR.out.2.cell (p := ⟨p, 3, none⟩) HPZ.out).trans q3
        clear hr hi2 hgo h3 HBR hfz
        have HBK : Hid (∀ W, Below w.heap.size w W → ∀ k, k < s.back.length → ∃ gb, ba = some ⟨gb, 0, none⟩ ∧ W.cell? ⟨gb, k, none⟩ = some (.int .u8 (byteAt s.back k : Nat))) := fun W hb k hk => by
          obtain ⟨gb, cap', hv, _, _⟩ := HW.out.back.owns.form (by omega)
          cases hv
          obtain ⟨_, _, f, hr, hf⟩ := cells_of_owned HW.out.back.owns
          have h2 := hr.cell (i := k) (by omega)
          rw [hf k hk] at h2
          exact ⟨gb, rfl, (hb.cell (p := ⟨gb, k, none⟩) (World.block_lt_of_cell? w _ h2)).trans h2⟩
        have hlb : (s.back.length : Int) ≤ 1275 := by omega
        go_wp2
        go_loopg [63] s.back.length (fun g idx W => ∃ k : Nat, g + k = s.back.length ∧ idx = .int .i64 k ∧ Hid (BRow W w.heap.size n (backF s n k) ∧ Below w.heap.size w W))
        case atStart => exact ⟨0, rfl, rfl, HTOP.out.1.congr fun j hj => (by unfold backF; rw [if_pos (by omega)]), HTOP.out.2⟩
        case round =>
          obtain ⟨k5, hgk, rfl, hr⟩ := hrel
          have HBR : Hid (BRow wr w.heap.size n (backF s n k5) ∧ Below w.heap.size w wr) := hr
          have hfz : ∀ j, wr.frozen? ⟨w.heap.size, j, none⟩ = false := World.rowIs.frozen hr.out.1
          clear hr HTOP v3
          by_cases hlt : k5 < s.back.length
          · obtain ⟨gb, rfl, hbc⟩ := HBK.out wr HBR.out.2 k5 hlt
            obtain ⟨m, hm⟩ : ∃ m : Nat, m + k5 + 1 = n := ⟨n - 1 - k5, by omega⟩
            have hmI : (n : Int) - 1 - (k5 : Int) = (m : Int) := by omega
            have hmn : m < n := by omega
            have hcl : wr.cell? ⟨w.heap.size, m, none⟩ = some (.int .u8 (backF s n k5 m : Nat)) := World.rowIs.cell HBR.out.1 hmn
            have HST : Hid (BRow (wr.setCell ⟨w.heap.size, m, none⟩ (.int .u8 (byteAt s.back k5 : Nat))) w.heap.size n (backF s n (k5 + 1)) ∧ Below w.heap.size w (wr.setCell ⟨w.heap.size, m, none⟩ (.int .u8 (byteAt s.back k5 : Nat)))) := by
              refine ⟨BRow.store HBR.out.1 m (by unfold backF; rw [if_neg (by omega), show n - 1 - m = k5 by omega]) fun j hj hjm => ?_, HBR.out.2.setCell (Nat.le_refl _) _⟩
              unfold backF
              by_cases h : j + k5 < n
              · rw [if_pos h, if_pos (by omega)]
              · rw [if_neg h, if_neg (by omega)]
            have hlt2 : ((k5 : Int) < (s.back.length : Int)) = True := eq_true (by omega)
            have HM : Hid (m + k5 + 1 = n) := hm
            clear hm
            obtain ⟨g5, rfl⟩ : ∃ g5, gk = g5 + 1 := ⟨gk - 1, by omega⟩
            go_wp2
            go_roundg g5
            case measure => omega
            case rel => exact ⟨k5 + 1, by omega, by go_num, HST.out⟩
          · obtain rfl : k5 = s.back.length := by omega
            obtain ⟨t, ht9⟩ : ∃ t : Nat, t + s.back.length + 1 = n := ⟨n - 1 - s.back.length, by omega⟩
            have htI : (n : Int) - 1 - (s.back.length : Int) = (t : Int) := by omega
            have htn : t < n := by omega
            have v3 : wr.cell? ⟨p, 3, none⟩ = some (.slice ba s.back.length bcap) := (HBR.out.2.cell (p := ⟨p, 3, none⟩) HPZ.out).trans q3
            have v4 : wr.cell? ⟨p, 4, none⟩ = some (.int .i64 s.wait) := (HBR.out.2.cell (p := ⟨p, 4, none⟩) HPZ.out).trans q4
            have HDN : Hid (BRow wr w.heap.size n (doneF s n)) := HBR.out.1.congr fun j hj => by
              unfold backF doneF topF
              by_cases h : j + s.back.length < n
              · rw [if_pos h, if_pos h, if_pos h]
              · rw [if_neg h, if_neg h]
            have hcl : wr.cell? ⟨w.heap.size, t, none⟩ = some (.int .u8 (doneF s n t : Nat)) := World.rowIs.cell HDN.out htn
            have HOR : Hid (bits .or .u8 ((doneF s n t : Nat) : Int) (IntKind.u8.wrap (s.wait : Int)) = (finalF s n t : Nat)) := by
              show _ = _
              rw [IntKind.wrap_u8]
              exact or_last HE.out ht9
            have HFIN : Hid (∀ z : Int, z = (finalF s n t : Nat) → BRow (wr.setCell ⟨w.heap.size, t, none⟩ (.int .u8 z)) w.heap.size n (finalF s n) ∧ Below w.heap.size w (wr.setCell ⟨w.heap.size, t, none⟩ (.int .u8 z))) := fun z hz => by
              refine ⟨BRow.store HDN.out t hz fun j hj hjt => ?_, HBR.out.2.setCell (Nat.le_refl _) _⟩
              unfold finalF
              rw [if_neg (by omega)]
            have hstop2 : ((s.back.length : Int) < (s.back.length : Int)) = False := eq_false (by omega)
            have hw8 : IntKind.i64.wrap ((n : Int) - 1) = (n : Int) - 1 := by rw [IntKind.wrap_i64]; omega
            have hw9 : IntKind.i64.wrap ((t : Nat) : Int) = (t : Int) := by rw [IntKind.wrap_i64]; omega
            have htnI : (t : Int) < (n : Int) := by omega
            have ht0 : (0 : Int) ≤ (t : Int) := by omega
            clear ht9
            go_wp2
            go_region_with (fail)
            all_goals
              go_wp2
              go_ret2
              obtain ⟨f1, f2⟩ := HFIN.out _ HOR.out
              have hl9 := doneL_len s n
              have hr9 := owned_of_cells (bs := doneL s n) (cap := n) (by omega) (by unfold maxLen; omega) f1 (fun j hj => by rw [hl9] at hj; show Value.int .u8 (finalF s n j : Nat) = _; rw [doneL, byteAt_map _ hj])
              rw [hl9] at hr9
              exact ⟨some ⟨w.heap.size, 0, none⟩, n, rfl, (owns_from hr9 (Nat.le_refl _)).drew, f2.drew⟩

end Go.Proofs.Ytdbgcbbfnjoebaa
