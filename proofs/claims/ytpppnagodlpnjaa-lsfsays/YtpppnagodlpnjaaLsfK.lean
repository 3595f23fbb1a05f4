/- The index that is found: what the program's call comes to. -/
import Derived.Test.YtpppnagodlpnjaaLsfJ
namespace Go.Proofs.Ytpppnagodlpnjaa
open Go.RowKit

/-- Block g holds an index: its first number, its slice. -/
def Idx (w : World) (g : Nat) (v0 v1 : Value) : Prop := w.heap[g]? = some (.cells #[v0, v1] 29 (0, 0))
theorem Idx.lt {w : World} {g : Nat} {v0 v1 : Value} (h : Idx w g v0 v1) : g < w.heap.size := (Array.getElem?_eq_some_iff.1 h).1
theorem Idx.keep {w w' : World} {g : Nat} {v0 v1 : Value} (h : Idx w g v0 v1) (hb : Below w.heap.size w w') : Idx w' g v0 v1 := (hb.block g h.lt).trans h
theorem Idx.cells {w : World} {g : Nat} {v0 v1 : Value} (h : Idx w g v0 v1) : w.cell? ⟨g, 0, none⟩ = some v0 ∧ w.cell? ⟨g, 1, none⟩ = some v1 := by
  constructor <;> simp [World.cell?, show w.heap[g]? = _ from h]
theorem Idx.frozen {w : World} {g : Nat} {v0 v1 : Value} (h : Idx w g v0 v1) (i : Nat) : w.frozen? ⟨g, i, none⟩ = false := by simp [World.frozen?, show w.heap[g]? = _ from h]
theorem Idx.new (w : World) (v0 v1 : Value) : Idx (w.alloc (.cells #[v0, v1] 29)) w.heap.size v0 v1 := heap_alloc_new w _
theorem Idx.other {w : World} {g : Nat} {v0 v1 : Value} (h : Idx w g v0 v1) {p : Addr} (hp : g ≠ p.block) (u : Value) : Idx (w.setCell p u) g v0 v1 := (Below.heap_setCell w p u g hp).trans h
theorem Idx.set0 {w : World} {g : Nat} {v0 v1 : Value} (h : Idx w g v0 v1) (u : Value) : Idx (w.setCell ⟨g, 0, none⟩ u) g u v1 := by
  unfold Idx at h ⊢
  simp [World.setCell, Array.getElem?_modify, h]
theorem Idx.set1 {w : World} {g : Nat} {v0 v1 : Value} (h : Idx w g v0 v1) (u : Value) : Idx (w.setCell ⟨g, 1, none⟩ u) g v0 u := by
  unfold Idx at h ⊢
  simp [World.setCell, Array.getElem?_modify, h]
theorem Idx.drew {w : World} {g : Nat} {v0 v1 : Value} (h : Idx w g v0 v1) : Idx w.drew g v0 v1 := h
theorem Idx.alloc {w : World} {g : Nat} {v0 v1 : Value} (h : Idx w g v0 v1) (o : Obj) : Idx (w.alloc o) g v0 v1 := h.keep ((Below.refl _ _).alloc (Nat.le_refl _) o)

theorem bcell {W w1 : World} (hb : Below W.heap.size W w1) : (∀ b o, b < W.heap.size → w1.cell? ⟨b, o, none⟩ = W.cell? ⟨b, o, none⟩) ∧ (∀ b o, b < W.heap.size → w1.frozen? ⟨b, o, none⟩ = W.frozen? ⟨b, o, none⟩) :=
  ⟨fun b o h => hb.cell (p := ⟨b, o, none⟩) h, fun b o h => hb.frozen (p := ⟨b, o, none⟩) h⟩

theorem bcell_alloc {W w1 : World} (hb : Below W.heap.size W w1) : (∀ q b o, b < W.heap.size → (w1.alloc q).cell? ⟨b, o, none⟩ = W.cell? ⟨b, o, none⟩) ∧ (∀ q b o, b < W.heap.size → (w1.alloc q).frozen? ⟨b, o, none⟩ = W.frozen? ⟨b, o, none⟩) :=
  ⟨fun q b o h => (hb.alloc hb.size q).cell (p := ⟨b, o, none⟩) h, fun q b o h => (hb.alloc hb.size q).frozen (p := ⟨b, o, none⟩) h⟩

theorem search_bad (order : Int) (a : Option Addr) (n cap : Nat) (w : World) (_hn : n ≤ maxLen) (h : ¬ ((order = 10 ∨ order = 16) ∧ (n : Int) = order)) :
    Calls Try.prog 12 #[.int .i64 order, .slice a n cap] w fun e w' => e = .returned (.tuple #[.agg #[.int .i64 0, .slice none 0 0], .int .i64 1]) ∧ Below w.heap.size w w' := by
  unfold maxLen at _hn
  by_cases h1 : order = 10 ∨ order = 16
  · have hu : unitI order = 400 ∨ unitI order = 250 := by
      rcases h1 with rfl | rfl
      · exact .inl rfl
      · exact .inr rfl
    generalize hU : unitI order = U at hu
    have HU : Hid (unitI order = U) := hU
    clear hU
    have hu0 : (U == 0) = false := beq_eq_false_iff_ne.2 (by omega)
    have h4 : ((n : Int) != order) = true := by
      rw [bne_iff_ne]
      omega
    clear h h1 hu
    go_enter Try.func12, Try.ntmps12
    go_wp2_with (go_at_call 24; refine (unit_any _ _).mono ?_; rw [HU.out]; rintro e w' ⟨rfl, rfl⟩)
    exact bodyPost_ret (v := .tuple #[.agg #[.int .i64 0, .slice none 0 0], .int .i64 1]) (by simp [results, Try.results12, go_sem]) rfl ⟨rfl, (Below.refl _ _).alloc (Nat.le_refl _) _⟩
  · have HU : Hid (unitI order = 0) := by
      show _ = _
      unfold unitI
      rw [if_neg (by omega), if_neg (by omega)]
    clear h h1
    go_enter Try.func12, Try.ntmps12
    go_wp2_with (go_at_call 24; refine (unit_any _ _).mono ?_; rw [HU.out]; rintro e w' ⟨rfl, rfl⟩)
    exact bodyPost_ret (v := .tuple #[.agg #[.int .i64 0, .slice none 0 0], .int .i64 1]) (by simp [results, Try.results12, go_sem]) rfl ⟨rfl, (Below.refl _ _).alloc (Nat.le_refl _) _⟩

/-! ### One statement in any of its orders: two blocks, wherever they lie -/
def AtF (A : Nat → Nat → Act) (F : Nat → Nat → World → Prop) : Exit → Act → World → Prop
  | .normal, a, W => ∃ x r, a = A x r ∧ F x r W
  | _, _, _ => False
theorem AtF.goes {A : Nat → Nat → Act} {F : Nat → Nat → World → Prop} {Q : Exit → Act → World → Prop} (h : ∀ x r W, F x r W → Q .normal (A x r) W) : ∀ (e : Exit) (a : Act) (w : World), AtF A F e a w → Q e a w := fun e a w h' => by
  cases e with
  | normal =>
    obtain ⟨x, r, rfl, hf⟩ := h'
    exact h x r w hf
  | _ => exact h'.elim

/-- What holds ahead of that statement, and behind each part of it. -/
structure Sta (w w3 : World) (a3 : Option Addr) (c : List Int) (W : World) : Prop where
  row : NewRow 2 w.heap.size W a3 c
  blk : ∀ b, a3 = some ⟨b, 0, none⟩ → b < w3.heap.size
  bel : Below w.heap.size w W
  res : Idx W w.heap.size (.int .i64 0) (.slice none 0 0)
  low : w.heap.size < w3.heap.size
  sz : w3.heap.size ≤ W.heap.size
theorem Sta.keep {w w3 : World} {a3 : Option Addr} {c : List Int} {W W' : World} (h : Sta w w3 a3 c W) (hb : Below W.heap.size W W') : Sta w w3 a3 c W' :=
  ⟨h.row.keep hb, h.blk, h.bel.trans (hb.mono h.bel.size), h.res.keep hb, h.low, Nat.le_trans h.sz hb.size⟩
theorem Sta.alloc {w w3 : World} {a3 : Option Addr} {c : List Int} {W : World} (h : Sta w w3 a3 c W) (o : Obj) : Sta w w3 a3 c (W.alloc o) := h.keep ((Below.refl _ _).alloc (Nat.le_refl _) o)
theorem Sta.drew {w w3 : World} {a3 : Option Addr} {c : List Int} {W : World} (h : Sta w w3 a3 c W) : Sta w w3 a3 c W.drew := h.keep (Below.refl _ _).drew
theorem Sta.store {w w3 : World} {a3 : Option Addr} {c : List Int} {W : World} (h : Sta w w3 a3 c W) {p : Addr} (hp : w3.heap.size ≤ p.block) (u : Value) : Sta w w3 a3 c (W.setCell p u) :=
  ⟨h.row.setOther (fun b e hbe => by have := h.blk b e; omega) u, h.blk, h.bel.setCell (Nat.le_trans (Nat.le_of_lt h.low) hp) u, h.res.other (by have := h.low; omega) u, h.low, by rw [show (W.setCell p u).heap.size = W.heap.size by simp]; exact h.sz⟩

/-- The new index's block x, its list's block r. -/
structure Fnd (w w3 : World) (a3 : Option Addr) (c : List Int) (o : Int) (n x r : Nat) (W : World) : Prop where
  sta : Sta w w3 a3 c W
  box : Idx W x (.int .i64 o) (.slice (some ⟨r, 0, none⟩) n n)
  row : NewRow 3 w3.heap.size W (some ⟨r, 0, none⟩) (List.replicate n 0)
  hx : w3.heap.size ≤ x
  hr : w3.heap.size ≤ r
  ne : x ≠ r

abbrev zRow (n : Nat) : Obj := .cells (madeCells #[.int .i64 0] n) 3
abbrev zBox : Obj := .cells #[.int .i64 0, .slice none 0 0] 29
theorem Idx.new' {w : World} {g : Nat} (hg : g = w.heap.size) (v0 v1 : Value) : Idx (w.alloc (.cells #[v0, v1] 29)) g v0 v1 := by subst hg; exact Idx.new w v0 v1
theorem NewRow.made' {w : World} {g : Nat} (hg : g = w.heap.size) (n : Nat) : NewRow 3 w.heap.size (w.alloc (zRow n)) (some ⟨g, 0, .none⟩) (List.replicate n 0) := by subst hg; exact NewRow.made w n
theorem NewRow.off {e : TypeId} {B : Nat} {w : World} {g : Nat} {zs : List Int} (h : NewRow e B w (some ⟨g, 0, .none⟩) zs) {p : Addr} (hp : g ≠ p.block) (u : Value) : NewRow e B (w.setCell p u) (some ⟨g, 0, .none⟩) zs := h.setOther (fun b e => by cases e; exact hp) u

section
variable {w w3 w5 : World} {a3 : Option Addr} {c : List Int} {o : Int} {n : Nat}
theorem fnd1 (hst : Sta w w3 a3 c w3) (hb : Below w3.drew.heap.size w3.drew w5) : Fnd w w3 a3 c o n (w5.heap.size + 1) w5.heap.size ((w5.alloc (zRow n)).alloc (.cells #[.int .i64 o, .slice (some ⟨w5.heap.size, 0, none⟩) n n] 29)) := by
  have hs : w3.heap.size ≤ w5.heap.size := hb.size
  exact ⟨((hst.drew.keep hb).alloc _).alloc _, Idx.new' (by simp) _ _, ((NewRow.made' rfl n).mono hs).alloc _, by omega, hs, by omega⟩
theorem fnd2 (hst : Sta w w3 a3 c w3) (hb : Below w3.drew.heap.size w3.drew w5) : Fnd w w3 a3 c o n w5.heap.size (w5.heap.size + 1) ((w5.alloc (.cells #[.int .i64 o, .slice (some ⟨w5.heap.size + 1, 0, none⟩) n n] 29)).alloc (zRow n)) := by
  have hs : w3.heap.size ≤ w5.heap.size := hb.size
  exact ⟨((hst.drew.keep hb).alloc _).alloc _, (Idx.new' rfl _ _).alloc _, (NewRow.made' (by simp) n).mono (by simp; omega), hs, by omega, by omega⟩
theorem fnd3 (hst : Sta w w3 a3 c w3) (hb : Below (w3.alloc (zRow n)).drew.heap.size (w3.alloc (zRow n)).drew w5) : Fnd w w3 a3 c o n w5.heap.size w3.heap.size (w5.alloc (.cells #[.int .i64 o, .slice (some ⟨w3.heap.size, 0, none⟩) n n] 29)) := by
  have hs : w3.heap.size + 1 ≤ w5.heap.size := by have h : (w3.alloc (zRow n)).heap.size ≤ w5.heap.size := hb.size; rwa [World.size_alloc] at h
  exact ⟨((hst.alloc _).drew.keep hb).alloc _, Idx.new' rfl _ _, ((NewRow.made' rfl n).drew.keep hb).alloc _, by omega, Nat.le_refl _, by omega⟩
theorem fnd4 (hst : Sta w w3 a3 c w3) (hb : Below ((w3.alloc (zRow n)).alloc zBox).drew.heap.size ((w3.alloc (zRow n)).alloc zBox).drew w5) : Fnd w w3 a3 c o n (w3.heap.size + 1) w3.heap.size ((w5.setCell ⟨w3.heap.size + 1, 0, none⟩ (.int .i64 o)).setCell ⟨w3.heap.size + 1, 1, none⟩ (.slice (some ⟨w3.heap.size, 0, none⟩) n n)) :=
  ⟨((((hst.alloc _).alloc _).drew.keep hb).store (p := ⟨w3.heap.size + 1, 0, none⟩) (Nat.le_succ _) _).store (p := ⟨w3.heap.size + 1, 1, none⟩) (Nat.le_succ _) _,
    (((Idx.new' (w := w3.alloc (zRow n)) (by simp) _ _).drew.keep hb).set0 _).set1 _,
    ((((NewRow.made' rfl n).alloc _).drew.keep hb).off (p := ⟨w3.heap.size + 1, 0, none⟩) (Nat.ne_of_lt (Nat.lt_succ_self _)) _).off (p := ⟨w3.heap.size + 1, 1, none⟩) (Nat.ne_of_lt (Nat.lt_succ_self _)) _, Nat.le_succ _, Nat.le_refl _, by omega⟩
theorem fnd5 (hst : Sta w w3 a3 c w3) (hb : Below (w3.alloc zBox).drew.heap.size (w3.alloc zBox).drew w5) : Fnd w w3 a3 c o n w3.heap.size w5.heap.size (((w5.alloc (zRow n)).setCell ⟨w3.heap.size, 0, none⟩ (.int .i64 o)).setCell ⟨w3.heap.size, 1, none⟩ (.slice (some ⟨w5.heap.size, 0, none⟩) n n)) := by
  have hs : w3.heap.size + 1 ≤ w5.heap.size := by have h : (w3.alloc zBox).heap.size ≤ w5.heap.size := hb.size; rwa [World.size_alloc] at h
  exact ⟨((((hst.alloc _).drew.keep hb).alloc _).store (p := ⟨w3.heap.size, 0, none⟩) (Nat.le_refl _) _).store (p := ⟨w3.heap.size, 1, none⟩) (Nat.le_refl _) _,
    ((((Idx.new' rfl _ _).drew.keep hb).alloc _).set0 _).set1 _,
    (((NewRow.made' rfl n).mono (by omega)).off (p := ⟨w3.heap.size, 0, none⟩) (by show w5.heap.size ≠ w3.heap.size; omega) _).off (p := ⟨w3.heap.size, 1, none⟩) (by show w5.heap.size ≠ w3.heap.size; omega) _, Nat.le_refl _, by omega, by omega⟩
theorem fnd6 (hst : Sta w w3 a3 c w3) (hb : Below ((w3.alloc zBox).alloc (zRow n)).drew.heap.size ((w3.alloc zBox).alloc (zRow n)).drew w5) : Fnd w w3 a3 c o n w3.heap.size (w3.heap.size + 1) ((w5.setCell ⟨w3.heap.size, 0, none⟩ (.int .i64 o)).setCell ⟨w3.heap.size, 1, none⟩ (.slice (some ⟨w3.heap.size + 1, 0, none⟩) n n)) :=
  ⟨((((hst.alloc _).alloc _).drew.keep hb).store (p := ⟨w3.heap.size, 0, none⟩) (Nat.le_refl _) _).store (p := ⟨w3.heap.size, 1, none⟩) (Nat.le_refl _) _,
    ((((Idx.new' rfl _ _).alloc _).drew.keep hb).set0 _).set1 _,
    (((((NewRow.made' (w := w3.alloc zBox) (g := w3.heap.size + 1) (by simp) n).mono (B' := w3.heap.size) (by simp)).drew).keep hb).off (p := ⟨w3.heap.size, 0, none⟩) (by show w3.heap.size + 1 ≠ w3.heap.size; omega) _).off (p := ⟨w3.heap.size, 1, none⟩) (by show w3.heap.size + 1 ≠ w3.heap.size; omega) _, Nat.le_refl _, Nat.le_succ _, by omega⟩
end

/-- Nothing has turned but block g, nothing is new. -/
def Bar (g : Nat) (w w' : World) : Prop := w'.heap.size = w.heap.size ∧ ∀ k, k ≠ g → w'.heap[k]? = w.heap[k]?
theorem Bar.refl (g : Nat) (w : World) : Bar g w w := ⟨rfl, fun _ _ => rfl⟩
theorem Bar.set {g : Nat} {w w' : World} (h : Bar g w w') (i : Nat) (u : Value) : Bar g w (w'.setCell ⟨g, i, none⟩ u) := ⟨by rw [← h.1]; simp, fun k hk => (Below.heap_setCell w' ⟨g, i, none⟩ u k hk).trans (h.2 k hk)⟩
theorem Bar.drew {g : Nat} {w w' : World} (h : Bar g w w') : Bar g w w'.drew := h
theorem Bar.cell {g : Nat} {w w' : World} (h : Bar g w w') {b o : Nat} (hb : b ≠ g) : w'.cell? ⟨b, o, none⟩ = w.cell? ⟨b, o, none⟩ := World.cell?_of_block (h.2 b hb)
theorem Bar.idx {g : Nat} {w w' : World} (h : Bar g w w') {b : Nat} {v0 v1 : Value} (hb : b ≠ g) (hi : Idx w b v0 v1) : Idx w' b v0 v1 := (h.2 b hb).trans hi

theorem results_cell_two {P : Program} {fn : Func} {p q : Tmp} {ty : TypeId} (h : fn.results = #[.cell p ty, .tmp q]) (tmps : Array Value) (w : World) (g : Nat) (t : TypeId) (cs : Array Value) (fr : Nat × Nat) (d : TypeDesc)
    (hp : tmps.getD p undef = .pointer (some ⟨g, 0, none⟩)) (hg : w.heap[g]? = some (.cells cs t fr))
    (hu : P.underlying ty = some d) (hd : (match d with | .struct _ | .array _ _ => true | _ => false) = true) (hi : (P.info? ty).map (·.size) = some cs.size) :
    (results fn tmps).run P w = .ok (.tuple #[.agg cs, tmps.getD q undef]) w := by
  have hp' : tmps[p]?.getD undef = .pointer (some ⟨g, 0, none⟩) := by simpa using hp
  simp [results, h, hp', asAddr, run_loadVar_row w g t ty cs fr d hg hu hd hi]

set_option maxRecDepth 100000 in
set_option maxHeartbeats 2000000 in
theorem search_good (want : List Int) (a : Option Addr) (n cap : Nat) (w : World) (h16 : n = 10 ∨ n = 16) (hz : Zs w a n want) :
    Calls Try.prog 12 #[.int .i64 (n : Int), .slice a n cap] w fun e w' => ∃ a', e = .returned (.tuple #[.agg #[.int .i64 (oneZ n want : Nat), .slice a' n n], .int .i64 0]) ∧ NewRow 3 w.heap.size w' a' (twosZ n want) ∧ Below w.heap.size w w' := by
  have hI : (n : Int) = 10 ∨ (n : Int) = 16 := by omega
  have hu : unitI n = 400 ∨ unitI n = 250 := by
    rcases h16 with rfl | rfl
    · exact .inl rfl
    · exact .inr rfl
  have hus : unitI (n : Int) = stepZ n := unitI_step hI
  generalize hU : unitI n = U at hu hus
  have HU : Hid (unitI n = U) := hU
  clear hU
  have hu0 : (U == 0) = false := beq_eq_false_iff_ne.2 (by omega)
  have hn : 10 ≤ n ∧ n ≤ 16 := by omega
  have HZ : Hid (∀ W, Below w.heap.size w W → Zs W a n want) := fun W hb => hz.keep hb
  have HCL : Hid ((clL want).length = n) := by show _ = _; rw [clL_len, hz.len]
  have HN : Hid (∀ W a2 c2, Zs W a2 n (clL want) → Calls Try.prog 28 #[.slice a2 n c2] W fun e w' => e = .returned (.int .i64 (oneZ n want : Nat)) ∧ Below W.heap.size W w') := fun W a2 c2 h2 => nearest_any want n a2 c2 W h16 h2
  have h1lt := oneZ_lt n want
  have HLS : Hid (∀ W, Calls Try.prog 23 #[.int .i64 (n : Int), .int .i64 (oneZ n want : Nat)] W fun e w' => ∃ a' c', e = .returned (.slice a' n c') ∧ NewRow 2 W.heap.size w' a' (lsfL n (oneZ n want : Nat)) ∧ Below W.heap.size W w') := fun W => by
    have hl : (lsfL (n : Int) (oneZ n want : Nat)).length = n := lsfL_len' hI (by omega) (by omega) rfl
    have h2 := lsf_any n (oneZ n want : Nat) W
    rw [hl] at h2
    exact h2
  have HLL : Hid ((lsfL (n : Int) (oneZ n want : Nat)).length = n) := lsfL_len' hI (by omega) (by omega) rfl
  have HTL : Hid ((twosZ n want).length = n) := twosZ_len _ _
  have HB : Hid (∀ k, k < n → (0 ≤ (clL want)[k]?.getD 0 ∧ (clL want)[k]?.getD 0 ≤ 32768) ∧ (0 ≤ (lsfL (n : Int) (oneZ n want : Nat))[k]?.getD 0 ∧ (lsfL (n : Int) (oneZ n want : Nat))[k]?.getD 0 ≤ 32768)) := fun k hk => by
    refine ⟨by rw [clL_at (by rw [hz.len]; exact hk)]; exact clZ_in _, ?_⟩
    have h2 := lsfL_in hI (i := (oneZ n want : Nat)) (by omega) (by omega) ((lsfL (n : Int) (oneZ n want : Nat))[k]?.getD 0) (by rw [List.getElem?_eq_getElem (by rw [HLL.out]; exact hk)]; exact List.getElem_mem _)
    exact h2
  have HT : Hid (∀ k, k < n → (twosZ n want)[k]?.getD 0 = twoZ U ((clL want)[k]?.getD 0 - (lsfL (n : Int) (oneZ n want : Nat))[k]?.getD 0)) := fun k hk => by
    rw [twosZ_at (by omega), clL_want, lsfL_at hI (by omega) (by omega) (by omega), hus]
  clear hz hI h16 hus
  generalize twosZ (n : Int) want = T at *
  generalize lsfL (n : Int) (oneZ n want : Nat) = l5 at *
  generalize oneZ (n : Int) want = o at *
  have hmk := fun W : World => run_make_row' (P := Try.prog) 27 3 (.int .i64 0) 8 Try.underlying27 info_int rfl .i64 .i64 n (by omega) (by omega) W
  have hb := (Below.refl w.heap.size w).alloc (Nat.le_refl _) (.cells #[.int .i64 0, .slice none 0 0] 29)
  have hx0 := Idx.new w (.int .i64 0) (.slice none 0 0)
  go_enter Try.func12, Try.ntmps12
  go_wp2_with (first
    | (go_at_call 24; refine (unit_any _ _).mono ?_; rw [HU.out]; rintro e w' ⟨rfl, rfl⟩)
    | (go_at_call 25; refine (clampAll_any _ _ _ want _ (HZ.out _ hb) (by omega)).mono ?_; rintro e w3 ⟨a3, rfl, hn3, hb3⟩; replace hx0 := hx0.keep hb3))
  have hst : Sta w w3 a3 (clL want) w3 := ⟨hn3.mono (by simp), fun b e => by subst e; exact (hn3.ge (by rw [HCL.out]; omega)).2, hb.trans (hb3.mono hb.size), hx0, by have := hb3.size; simp at this; omega, Nat.le_refl _⟩
  have HST : Hid (∀ W, Sta w w3 a3 (clL want) W → Zs W a3 n (clL want)) := fun W h => Zs.of_new h.row HCL.out
  clear hn3 hb3 hb hx0
  generalize clL want = c at *
  refine Code.wp_mono (Q := AtF (fun x r => { tmps := #[.int .i64 (n : Int), .slice a n cap, undef, undef, .pointer (some ⟨w.heap.size, 0, none⟩), .int .i64 0, .int .i64 U, .slice a3 n n, .pointer (some ⟨x, 0, none⟩), undef, undef, .int .i64 (n : Int), .int .i64 U, .int .i64 U, .bool false, .bool false,
      .slice a n cap, .int .i64 (n : Int), .int .i64 (n : Int), .bool false, .bool false, undef, .slice a n cap, .slice a3 n n, .slice a3 n n, .int .i64 (o : Int), .int .i64 (n : Int), .slice (some ⟨r, 0, none⟩) n n, .agg #[.int .i64 (o : Int), .slice (some ⟨r, 0, none⟩) n n],
      undef, undef, undef, undef, undef, undef, undef, undef, undef, undef, undef, undef, undef, undef, undef, undef, undef, undef, undef, undef, undef, undef, undef, undef], defers := [] }) (Fnd w w3 a3 c o n)) (AtF.goes ?hq) ?hw
  case hw =>
    go_region_with (go_at_call 28; refine (HN.out _ _ _ (HST.out _ (by first | exact hst.drew | exact (hst.drew.alloc _) | exact (hst.alloc _).drew | exact ((hst.alloc _).alloc _).drew | exact (hst.drew.alloc _).alloc _))).mono ?_; rintro e w5 ⟨rfl, hb5⟩; obtain ⟨hc5, hf5⟩ := bcell hb5; obtain ⟨hc6, hf6⟩ := bcell_alloc hb5)
    · exact ⟨_, _, rfl, fnd1 hst hb5⟩
    · exact ⟨_, _, rfl, fnd2 hst hb5⟩
    · exact ⟨_, _, rfl, fnd3 hst hb5⟩
    · exact ⟨_, _, rfl, fnd4 hst hb5⟩
    · exact ⟨_, _, rfl, fnd5 hst hb5⟩
    · exact ⟨_, _, rfl, fnd6 hst hb5⟩
  case hq =>
    intro x r W hF
    have hxc := hF.box.cells
    obtain ⟨hx0, hx1⟩ := hxc
    have HCn : Hid (c.length = n) := HCL
    have HF : Hid (Fnd w w3 a3 c o n x r W) := hF
    clear hF hst HST HN hmk HZ
    go_wp2_with (go_at_call 23; refine (HLS.out _).mono ?_; rintro e w6 ⟨a5, c5, rfl, hn5, hb5⟩)
    have HF6 : Hid (Sta w w3 a3 c w6 ∧ Idx w6 x (.int .i64 o) (.slice (some ⟨r, 0, none⟩) n n) ∧ NewRow 3 w3.heap.size w6 (some ⟨r, 0, none⟩) (List.replicate n 0) ∧ Zs w6 a5 n l5) := ⟨HF.out.sta.keep hb5, HF.out.box.keep hb5, HF.out.row.keep hb5, Zs.of_new hn5 HLL.out⟩
    have HD5 : Hid (∀ b o2, 0 < n → a5 = some ⟨b, o2, none⟩ → b ≠ r) := fun b o2 h0 e => by
      subst e
      obtain ⟨b', e', h1, _⟩ := hn5.some_of (by rw [HLL.out]; exact h0)
      cases e'
      have := (HF.out.row.ge (by simp; omega)).2
      omega
    have HD3 : Hid (∀ b o2, 0 < n → a3 = some ⟨b, o2, none⟩ → b ≠ r) := fun b o2 h0 e => by
      subst e
      obtain ⟨b', e', _, _⟩ := HF.out.sta.row.some_of (by rw [HCn.out]; exact h0)
      cases e'
      have := HF.out.sta.blk b rfl
      have := HF.out.hr
      omega
    have hrr := HF.out.hr
    have hne := HF.out.ne
    have hlow := HF.out.sta.low
    have hwr : w.heap.size ≠ r := by omega
    have hwx : w.heap.size ≠ x := by have := HF.out.hx; omega
    clear HF hn5 hb5 hx0 hx1
    go_loopw [9, 10, 34] (fun _ _ k W => ∃ m : Nat, m ≤ n ∧ k = .int .i64 m ∧ Hid ((NewRow 3 w.heap.size W (some ⟨r, 0, none⟩) (mixL T (List.replicate n 0) m) ∧ Bar r w6 W) ∧ Below w.heap.size w W)) (fun _ _ k _ => n - (intOf k).toNat)
    case atStart => exact ⟨0, Nat.zero_le _, rfl, ⟨HF6.out.2.2.1.mono (Nat.le_of_lt hlow), Bar.refl _ _⟩, HF6.out.1.bel⟩
    case round =>
      obtain ⟨m, hm, rfl, HW⟩ := hrel
      have hlr : (List.replicate n (0 : Int)).length = n := by simp
      have hlen := mixL_len HTL.out hlr hm
      have hbx := (HW.out.1.2.idx hne HF6.out.2.1)
      by_cases hlt : m < n
      · obtain ⟨hx0, hx1⟩ := hbx.cells
        obtain ⟨b3, e3, _⟩ := HF6.out.1.row.some_of (by rw [HCn.out]; omega)
        have hr3 := HF6.out.1.row
        rw [e3] at hr3
        subst e3
        have h3 := (HW.out.1.2.cell (o := m) (HD3.out b3 0 (by omega) rfl)).trans (hr3.cellAt (i := m) (by rw [HCn.out]; exact hlt))
        obtain ⟨b5, o5, rfl, _, hc5⟩ := HF6.out.2.2.2.at_ (by omega)
        have h5 := (HW.out.1.2.cell (o := o5 + m) (HD5.out b5 o5 (by omega) rfl)).trans (hc5 m hlt)
        have hcm := HW.out.1.1.cellAt (i := m) (by omega)
        have hfm := HW.out.1.1.frozenAt (by omega) m
        have hst := mixL_step HTL.out hlr hlt
        have ht := HT.out m hlt
        have hin := HB.out m hlt
        generalize c[m]?.getD 0 = z at *
        generalize l5[m]?.getD 0 = y at *
        generalize T[m]?.getD 0 = v at *
        have HV : Hid (twoZ U (z - y) = v) := ht.symm
        have HW0 : Hid (IntKind.i64.wrap (z - y) = z - y) := by show _ = _; rw [IntKind.wrap_i64]; omega
        have HR2 : Hid ((NewRow 3 w.heap.size (wr.setCell ⟨r, m, none⟩ (.int .i64 v)) (some ⟨r, 0, none⟩) (mixL T (List.replicate n 0) (m + 1)) ∧ Bar r w6 (wr.setCell ⟨r, m, none⟩ (.int .i64 v))) ∧ Below w.heap.size w (wr.setCell ⟨r, m, none⟩ (.int .i64 v))) :=
          ⟨⟨by rw [hst]; exact HW.out.1.1.set m _, HW.out.1.2.set m _⟩, HW.out.2.setCell (p := ⟨r, m, none⟩) (by show w.heap.size ≤ r; omega) _⟩
        clear hst ht HT HB HW hlen hbx hr3 hc5 HD3 HD5 HF6 HTL HLL HCL HCn HLS
        go_wp2
        go_region_with (go_at_call 29; (try rw [HW0.out]); refine (two_any _ _ _ (by omega) (by omega) hu).mono ?_; rw [HV.out]; rintro e w7 ⟨rfl, rfl⟩)
        all_goals
          go_wp2
          go_roundw
          case rel => exact ⟨m + 1, by omega, by go_num, ⟨HR2.out.1.1.drew, HR2.out.1.2.drew⟩, HR2.out.2.drew⟩
          case measure => simp [intOf]; omega
      · have hm' : m = n := by omega
        subst hm'
        rw [mixL_all HTL.out hlr] at HW
        obtain ⟨hx0, hx1⟩ := hbx.cells
        have hrs := HW.out.1.2.idx hwr HF6.out.1.res
        obtain ⟨hw0, hw1⟩ := hrs.cells
        have hf0 := hrs.frozen 0
        have hf1 := hrs.frozen 1
        have HRS := (hrs.set0 (.int .i64 (o : Int))).set1 (.slice (some ⟨r, 0, none⟩) m m)
        go_wp2
        exact bodyPost_ret (results_cell_two rfl _ _ w.heap.size _ _ _ _ rfl HRS Try.underlying29 rfl (by kernel_rfl)) rfl ⟨_, rfl,
          (HW.out.1.1.off (p := ⟨w.heap.size, 0, none⟩) (fun h => hwr h.symm) _).off (p := ⟨w.heap.size, 1, none⟩) (fun h => hwr h.symm) _,
          (HW.out.2.setCell (p := ⟨w.heap.size, 0, none⟩) (Nat.le_refl _) _).setCell (p := ⟨w.heap.size, 1, none⟩) (Nat.le_refl _) _⟩

end Go.Proofs.Ytpppnagodlpnjaa
