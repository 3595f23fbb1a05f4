/- Package gain, what is read: by one entry, by a table. -/
import Derived.Test.YtnmfbjpbhghgaaaDoorGainC
import Derived.Test.YtnmfbjpbhghgaaaDoorRwJ
namespace Go.Proofs.YtnmfbjpbhghgaaaDoor
open Go.RowKit

theorem readSym_any (p g : Nat) (bs : List Nat) (s : St) (b1 b3 : Nat) (a : Option Addr) (n cap : Nat) (t : List Int) (w : World) (h : Rd p g bs s w) (hi : Inv s) (hc : s.cnt ≤ 1000000000000000) (ht : RowAt w a n t) (hn : n ≤ 17)
    (h1 : w.cell? ⟨b1, 0, none⟩ = some (.func (.func 60) #[] #[])) (h3 : w.cell? ⟨b3, 0, none⟩ = some (.slice a n cap)) :
    Calls Tryd.prog 71 #[.pointer (some ⟨p, 0, none⟩), .pointer (some ⟨b1, 0, none⟩), .pointer (some ⟨b3, 0, none⟩)] w fun e w' => e = .returned (.int .i64 (symS bs t s).1) ∧ Rd p g bs (symS bs t s).2 w' ∧ But p w w' := by
  have HH : Hid (Rd p g bs s w) := h
  have HT : Hid (RowAt w a n t) := ht
  clear h ht
  go_enter Tryd.func71, Tryd.ntmps71
  go_wp2_with (go_at_call 60; go_loud (refine (symbol_any p g bs s a n cap t _ HH.out hi hc HT.out (by omega)).mono ?_; rintro e w' ⟨rfl, hw1, hw2⟩))
  go_ret
  exact ⟨rfl, hw1, hw2⟩

theorem readUint_any (p g : Nat) (bs : List Nat) (s : St) (b1 b3 : Nat) (n : Int) (w : World) (h : Rd p g bs s w) (hi : Inv s) (hc : s.cnt ≤ 1000000000000000 - 100)
    (h1 : w.cell? ⟨b1, 0, none⟩ = some (.func (.func 64) #[] #[])) (h3 : w.cell? ⟨b3, 0, none⟩ = some (.int .i64 n)) :
    Calls Tryd.prog 77 #[.pointer (some ⟨p, 0, none⟩), .pointer (some ⟨b1, 0, none⟩), .pointer (some ⟨b3, 0, none⟩)] w fun e w' => e = .returned (.int .i64 (uintS bs n s).1) ∧ Rd p g bs (uintS bs n s).2 w' ∧ But p w w' := by
  have HH : Hid (Rd p g bs s w) := h
  clear h
  go_enter Tryd.func77, Tryd.ntmps77
  go_wp2_with (go_at_call 64; go_loud (refine (uint_any p g bs s n _ HH.out hi hc).mono ?_; rintro e w' ⟨rfl, hw1, hw2⟩))
  go_ret
  exact ⟨rfl, hw1, hw2⟩

/-! ### A list of numbers read one behind the other -/
def readsL (b : List Nat) : List Wr → St → List Int
  | [], _ => []
  | x :: l, s => (readW b x s).1 :: readsL b l (readW b x s).2

theorem readsL_len (b : List Nat) : ∀ (l : List Wr) (s : St), (readsL b l s).length = l.length
  | [], _ => rfl
  | x :: l, s => by unfold readsL; rw [List.length_cons, List.length_cons, readsL_len b l]

theorem reads_step (b : List Nat) : ∀ (l : List Wr) (s : St) (k : Nat) (x : Wr), l[k]? = some x →
    (readsL b l s)[k]?.getD 0 = (readW b x (afterL b (l.take k) s)).1 ∧ afterL b (l.take (k + 1)) s = (readW b x (afterL b (l.take k) s)).2
  | [], _, _, _, h => by simp at h
  | y :: l, s, 0, x, h => by
    obtain rfl : y = x := by simpa using h
    exact ⟨rfl, rfl⟩
  | y :: l, s, k + 1, x, h => by
    have h' : l[k]? = some x := by simpa using h
    obtain ⟨e1, e2⟩ := reads_step b l (readW b y s).2 k x h'
    exact ⟨e1, e2⟩

def readable (x : Wr) : Prop := x.op = 0 ∨ x.op = 3

theorem takeS_cnt0 (b : List Nat) (s : St) (fl fh ft : Nat) : (takeS b s fl fh ft).cnt ≤ s.cnt + 24 := onS_cnt3 b (narrowS s fl fh ft)

theorem readW_inv {b : List Nat} (hb : Bytes b) {x : Wr} (h : readable x) {s : St} (hi : Inv s) : Inv (readW b x s).2 ∧ (readW b x s).2.cnt ≤ s.cnt + 60 := by
  rcases h with h | h
  · have e : readW b x s = ((((symS b x.t s).1 : Nat) : Int), (symS b x.t s).2) := by unfold readW; rw [if_pos h]
    rw [e]
    refine ⟨(symS_inv hb hi x.t).1, ?_⟩
    show (symS b x.t s).2.cnt ≤ _
    unfold symS
    split
    · have := takeS_cnt0 b s (256 - (symGo (chooseS s 256 : Nat) 0 256 x.t).2.1).toNat (256 - (symGo (chooseS s 256 : Nat) 0 256 x.t).2.2).toNat 256
      show (takeS b s (256 - (symGo (chooseS s 256 : Nat) 0 256 x.t).2.1).toNat (256 - (symGo (chooseS s 256 : Nat) 0 256 x.t).2.2).toNat 256).cnt ≤ _
      omega
    · show s.cnt ≤ _; omega
  · have e : readW b x s = ((((uintS b x.n s).1 : Nat) : Int), (uintS b x.n s).2) := by
      unfold readW
      rw [if_neg (by omega), if_neg (by omega), if_neg (by omega), if_pos h]
    rw [e]
    refine ⟨(uintS_inv hb hi x.n).1, ?_⟩
    show (uintS b x.n s).2.cnt ≤ _
    unfold uintS
    split
    · show s.cnt ≤ _; omega
    · split
      · have := takeS_cnt0 b s (chooseS s x.n.toNat) (chooseS s x.n.toNat + 1) x.n.toNat
        show (takeS b s (chooseS s x.n.toNat) (chooseS s x.n.toNat + 1) x.n.toNat).cnt ≤ _
        omega
      · rename_i h1 h2
        obtain ⟨_, s2, _, _⟩ := shift_in (ft := x.n.toNat) (by omega) (by omega)
        have h3 := takeS_cnt0 b s (chooseS s (partN x.n.toNat)) (chooseS s (partN x.n.toNat) + 1) (partN x.n.toNat)
        have h4 : (bitsS b (shiftN x.n.toNat : Nat) (takeS b s (chooseS s (partN x.n.toNat)) (chooseS s (partN x.n.toNat) + 1) (partN x.n.toNat))).2.cnt ≤ (takeS b s (chooseS s (partN x.n.toNat)) (chooseS s (partN x.n.toNat) + 1) (partN x.n.toNat)).cnt + 24 := by
          unfold bitsS
          split
          · show _ + _ ≤ _; omega
          · show _ ≤ _; omega
        rw [uintBig_eq]
        split
        · show (bitsS b (shiftN x.n.toNat : Nat) (takeS b s (chooseS s (partN x.n.toNat)) (chooseS s (partN x.n.toNat) + 1) (partN x.n.toNat))).2.cnt ≤ _; omega
        · show (bitsS b (shiftN x.n.toNat : Nat) (takeS b s (chooseS s (partN x.n.toNat)) (chooseS s (partN x.n.toNat) + 1) (partN x.n.toNat))).2.cnt ≤ _; omega

theorem afterL_inv {b : List Nat} (hb : Bytes b) : ∀ (l : List Wr) (s : St), (∀ x ∈ l, readable x) → Inv s → Inv (afterL b l s) ∧ (afterL b l s).cnt ≤ s.cnt + 60 * l.length
  | [], s, _, hi => ⟨hi, Nat.le_refl _⟩
  | x :: l, s, ho, hi => by
    obtain ⟨h1, h2⟩ := readW_inv hb (ho x (by simp)) hi
    obtain ⟨h3, h4⟩ := afterL_inv hb l (readW b x s).2 (fun y hy => ho y (by simp [hy])) h1
    refine ⟨h3, ?_⟩
    show (afterL b l (readW b x s).2).cnt ≤ _
    rw [List.length_cons]
    omega

theorem EntryAt.can {B C : Nat} {w : World} {v1 v2 : Value} {x : Wr} (h : EntryAt B C w v1 v2 x) : readable x := by
  rcases h with ⟨_, _, _, _, _, _, h, _⟩ | ⟨_, _, _, _, _, _, h, _⟩
  · exact .inl h
  · exact .inr h

theorem TableAt.can {B C : Nat} {w : World} {a : Option Addr} {n : Nat} {xs : List Wr} (h : TableAt B C w a n xs) : ∀ x ∈ xs, readable x := fun x hx => by
  obtain ⟨_, _, _, _, _, _, h6⟩ := h
  obtain ⟨i, hi, rfl⟩ := List.getElem_of_mem hx
  obtain ⟨_, _, _, _, he⟩ := h6 i xs[i] (List.getElem?_eq_getElem hi)
  exact he.can

theorem NewRow.same {e : TypeId} {B : Nat} {w w' : World} {a : Option Addr} {zs : List Int} (h : NewRow e B w a zs) (hb : ∀ b, a = some ⟨b, 0, .none⟩ → w'.heap[b]? = w.heap[b]?) : NewRow e B w' a zs := by
  rcases h with h | ⟨b, c, ha, hB, hh, hc⟩
  · exact .inl h
  · exact .inr ⟨b, c, ha, hB, (hb b ha).trans hh, hc⟩

theorem Went.keep {S S' : Nat → Prop} {a b c : World} (h : Went S a S' b) (hb : Below b.heap.size b c) : Went S a S' c :=
  h.trans ⟨hb.os, hb.tape, hb.output, hb.size, fun k hk _ => hb.block k hk, fun _ h => .inl h⟩

theorem Went.alloc {S S' : Nat → Prop} {a b : World} (h : Went S a S' b) (o : Obj) : Went S a S' (b.alloc o) := h.keep ((Below.refl _ _).alloc (Nat.le_refl _) o)

/-- A store into a block that is new. -/
theorem Went.setNew {S S' : Nat → Prop} {a b : World} (h : Went S a S' b) {g : Nat} (hg : a.heap.size ≤ g) (i : Nat) (v : Value) : Went S a S' (b.setCell ⟨g, i, none⟩ v) :=
  ⟨h.os, h.tape, h.output, by simpa [World.setCell] using h.size, fun k hk hS => (Below.heap_setCell b ⟨g, i, none⟩ v k (by show k ≠ g; omega)).trans (h.block k hk hS), h.sub⟩

/-- What lies from B up to C is as it was when only block p, below B, has turned. -/
theorem Went.between {p B C : Nat} {w w' : World} (h : Went (fun k => k = p) w (fun k => k = p) w') (hp : p < B) (hC : C ≤ w.heap.size) : ∀ k, B ≤ k → k < C → w'.heap[k]? = w.heap[k]? := fun k h1 h2 => h.block k (by omega) (fun e => by omega)

theorem Rd.went {p g : Nat} {bs : List Nat} {s : St} {w w' : World} {S S' : Nat → Prop} (h : Rd p g bs s w) (hw : Went S w S' w') (hp : ¬ S p) (hg : bs ≠ [] → ¬ S g) : Rd p g bs s w' :=
  h.of_blocks (hw.block p h.lt hp) (fun h0 => hw.block g (h.gt h0) (hg h0))

/-- What stands in a round of the loop. -/
structure ReadIn (p g : Nat) (bs : List Nat) (s : St) (xs : List Wr) (gl n m : Nat) (w W : World) : Prop where
  row : NewRow 3 w.heap.size W (some ⟨gl, 0, none⟩) (mixL (readsL bs xs s) (List.replicate n 0) m)
  rd : Rd p g bs (afterL bs (xs.take m) s) W
  went : Went (fun k => k = p) w (fun k => k = p) W
  far : gl ≠ p

set_option maxRecDepth 100000 in
set_option maxHeartbeats 3200000 in
theorem readAll_any (p g : Nat) (bs : List Nat) (s : St) (a : Option Addr) (n : Nat) (xs : List Wr) (B C : Nat) (w : World) (h : Rd p g bs s w) (hi : Inv s) (hc : s.cnt ≤ 100000000000000) (ht : TableAt B C w a n xs) (hpB : p < B) (hC : C ≤ w.heap.size) :
    Calls Tryd.prog 39 #[.pointer (some ⟨p, 0, none⟩), .slice a n n] w fun e w' => ∃ a', e = .returned (.slice a' n n) ∧ NewRow 3 w.heap.size w' a' (readsL bs xs s) ∧ Rd p g bs (afterL bs xs s) w' ∧ Went (fun k => k = p) w (fun k => k = p) w' := by
  have hn2 : n ≤ 2 := ht.2.1
  have HT : Hid (TableAt B C w a n xs) := ht
  obtain ⟨b, rfl, hbB, hbC⟩ : ∃ b, a = some ⟨b, 0, none⟩ ∧ B ≤ b ∧ b < C := by obtain ⟨_, _, b, h1, h2, h3, _⟩ := ht; exact ⟨b, h1, h2, h3⟩
  have HX : Hid (xs.length = n ∧ (readsL bs xs s).length = n) := ⟨ht.1, by rw [readsL_len]; exact ht.1⟩
  have HI : Hid (∀ m, m ≤ n → Inv (afterL bs (xs.take m) s) ∧ (afterL bs (xs.take m) s).cnt ≤ 100000000001000) := fun m hm => by
    obtain ⟨h1, h2⟩ := afterL_inv h.bytes (xs.take m) s (fun x hx => ht.can x (List.mem_of_mem_take hx)) hi
    rw [List.length_take] at h2
    exact ⟨h1, by omega⟩
  have hpw := h.lt
  have HG : Hid (bs ≠ [] → g < w.heap.size) := h.gt
  have hmk := fun W : World => run_make_row' (P := Tryd.prog) 41 3 (.int .i64 0) 8 Tryd.underlying41 info_int rfl .i64 .i64 n (by omega) (by omega) W
  have H0 : Hid (ReadIn p g bs s xs w.heap.size n 0 w (w.alloc (.cells (madeCells #[.int .i64 0] n) 3))) := ⟨NewRow.made w n, h.keep ((Below.refl _ _).alloc (Nat.le_refl _) _), (Went.refl _ _).alloc _, by omega⟩
  clear h ht
  go_enter Tryd.func39, Tryd.ntmps39
  go_wp2
  go_loopw [6, 7, 13] (fun _ _ k W => ∃ m : Nat, m ≤ n ∧ k = .int .i64 m ∧ Hid (ReadIn p g bs s xs w.heap.size n m w W)) (fun _ _ k _ => n - (intOf k).toNat)
  case atStart => exact ⟨0, Nat.zero_le _, rfl, H0⟩
  case round =>
    clear H0
    obtain ⟨m, hm, rfl, HR⟩ := hrel
    by_cases hlt : m < n
    · obtain ⟨x, hx⟩ : ∃ x, xs[m]? = some x := ⟨_, List.getElem?_eq_getElem (by rw [HX.out.1]; exact hlt)⟩
      obtain ⟨e1, e2⟩ := reads_step bs xs s m x hx
      obtain ⟨_, _, b', hbe, _, _, hent⟩ := HT.out.same HR.out.went.size (HR.out.went.between hpB hC) (Nat.le_refl C)
      cases hbe
      obtain ⟨v1, v2, hc1, hc2, he⟩ := hent m x hx
      have hpr := HR.out.rd.lt
      have HB : Hid (Below wr.heap.size wr (wr.alloc (.cells #[v1, v2] 84))) := (Below.refl _ _).alloc (Nat.le_refl _) _
      have HRD : Hid (Rd p g bs (afterL bs (xs.take m) s) (wr.alloc (.cells #[v1, v2] 84))) := HR.out.rd.keep HB.out
      have he2 := he.same HB.out.size (fun k h1 h2 => HB.out.block k (by have := HR.out.went.size; omega)) (Nat.le_refl C)
      have hsz := HR.out.went.size
      have HL : Hid ((mixL (readsL bs xs s) (List.replicate n 0) m).length = n) := mixL_len HX.out.2 (List.length_replicate ..) hm
      have HS : Hid (∀ z : Int, z = (readW bs x (afterL bs (xs.take m) s)).1 → (mixL (readsL bs xs s) (List.replicate n 0) m).set m z = mixL (readsL bs xs s) (List.replicate n 0) (m + 1)) := fun z hz => by
        rw [mixL_step HX.out.2 (List.length_replicate ..) hlt, hz, e1]
      have HE2 : Hid (afterL bs (xs.take (m + 1)) s = (readW bs x (afterL bs (xs.take m) s)).2) := e2
      have HGO : Hid (∀ w1, But p (wr.alloc (.cells #[v1, v2] 84)) w1 → NewRow 3 w.heap.size w1 (some ⟨w.heap.size, 0, none⟩) (mixL (readsL bs xs s) (List.replicate n 0) m) ∧ Went (fun k => k = p) w (fun k => k = p) w1) := fun w1 hw1 =>
        ⟨(HR.out.row.keep HB.out).same (fun b hb => by cases hb; exact hw1.block _ HR.out.far), (HR.out.went.alloc _).trans (.of_but hw1 rfl)⟩
      have HNEXT : Hid (∀ (w1 : World) (z : Int), z = (readW bs x (afterL bs (xs.take m) s)).1 → But p (wr.alloc (.cells #[v1, v2] 84)) w1 → Rd p g bs (readW bs x (afterL bs (xs.take m) s)).2 w1 → ReadIn p g bs s xs w.heap.size n (m + 1) w (w1.setCell ⟨w.heap.size, m, none⟩ (.int .i64 z))) := fun w1 z hz hw1 hrd => by
        obtain ⟨g1, g2⟩ := HGO.out w1 hw1
        refine ⟨by rw [← HS.out z hz]; exact g1.set m z, ?_, g2.setNew (Nat.le_refl _) _ _, HR.out.far⟩
        rw [HE2.out]
        exact hrd.of_blocks (Below.heap_setCell _ _ _ _ (fun e => HR.out.far e.symm)) (fun h0 => Below.heap_setCell _ _ _ _ (fun e => by have h9 := HG.out h0; have e' : g = w.heap.size := e; omega))
      have HST : Hid (∀ w1, But p (wr.alloc (.cells #[v1, v2] 84)) w1 → (∃ y, w1.cell? ⟨w.heap.size, m, none⟩ = some y) ∧ w1.frozen? ⟨w.heap.size, m, none⟩ = false) := fun w1 hw1 => by
        obtain ⟨g1, _⟩ := HGO.out w1 hw1
        exact ⟨⟨_, g1.cellAt (by rw [HL.out]; exact hlt)⟩, g1.frozenAt (by rw [HL.out]; omega) m⟩
      obtain ⟨hinv, hcnt⟩ := HI.out m hm
      clear HR HT hent e1 e2 he
      generalize afterL bs (xs.take m) s = t at *
      rcases he2 with ⟨b1, b2, b3, _, _, _, hop, a, na, cap, rfl, rfl, k1, k2, k3, k4, _, k6⟩ | ⟨b1, b2, b3, _, _, _, hop, rfl, rfl, k1, k2, k3⟩
      · have HV : Hid ((((symS bs x.t t).1 : Nat) : Int) = (readW bs x t).1 ∧ (symS bs x.t t).2 = (readW bs x t).2) := by unfold readW; rw [if_pos hop]; exact ⟨rfl, rfl⟩
        have hs1 := fun (a : Addr) (c : Array Value) (w : World) => run_store Tryd.prog w a (.func (.func 71) #[] c) .plain rfl
        have hs2 := fun (a : Addr) (c : Array Value) (w : World) => run_store Tryd.prog w a (.func (.func 72) #[] c) .plain rfl
        clear hop HX hx
        go_wp2_with (go_at_call 71; go_loud (refine (readSym_any p g bs t b1 b3 a na cap x.t _ HRD.out hinv (by omega) k4 k6 k1 k3).mono ?_; rintro e w1 ⟨rfl, hr1, hw1⟩; obtain ⟨⟨y, hy⟩, hf⟩ := HST.out w1 hw1))
        go_roundw
        case rel => exact ⟨m + 1, by omega, by go_num, HNEXT.out _ _ HV.out.1 hw1 (by rw [← HV.out.2]; exact hr1)⟩
        case measure => simp [intOf]; omega
      · have HV : Hid ((((uintS bs x.n t).1 : Nat) : Int) = (readW bs x t).1 ∧ (uintS bs x.n t).2 = (readW bs x t).2) := by unfold readW; rw [if_neg (by omega), if_neg (by omega), if_neg (by omega), if_pos hop]; exact ⟨rfl, rfl⟩
        have hs1 := fun (a : Addr) (c : Array Value) (w : World) => run_store Tryd.prog w a (.func (.func 77) #[] c) .plain rfl
        have hs2 := fun (a : Addr) (c : Array Value) (w : World) => run_store Tryd.prog w a (.func (.func 78) #[] c) .plain rfl
        clear hop HX hx
        go_wp2_with (go_at_call 77; go_loud (refine (readUint_any p g bs t b1 b3 x.n _ HRD.out hinv (by omega) k1 k3).mono ?_; rintro e w1 ⟨rfl, hr1, hw1⟩; obtain ⟨⟨y, hy⟩, hf⟩ := HST.out w1 hw1))
        go_roundw
        case rel => exact ⟨m + 1, by omega, by go_num, HNEXT.out _ _ HV.out.1 hw1 (by rw [← HV.out.2]; exact hr1)⟩
        case measure => simp [intOf]; omega
    · obtain rfl : m = n := by omega
      go_wp2
      go_ret
      refine ⟨_, rfl, ?_, ?_, HR.out.went⟩
      · have := HR.out.row
        rw [mixL_all HX.out.2 (List.length_replicate ..)] at this
        exact this
      · have := HR.out.rd
        rw [List.take_of_length_le (by have := HX.out.1; omega)] at this
        exact this


end Go.Proofs.YtnmfbjpbhghgaaaDoor
