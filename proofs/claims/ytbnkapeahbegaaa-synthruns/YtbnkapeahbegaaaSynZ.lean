/- The program's voice and the document's side by side. -/
import Derived.Test.YtbnkapeahbegaaaSynW
import Derived.Test.YtbnkapeahbegaaaSynL
import Derived.Test.YtbnkapeahbegaaaSynX
namespace Go.Proofs.Ytbnkapeahbegaaa
open Go.RowKit

/-- What is the document's own when a call on it begins. -/
def Mine (p : Nat) (u1 u2 : Value) (k : Nat) : Prop := k = p ∨ u1.ownBlock = some k ∨ u2.ownBlock = some k
def Above (w : World) (k : Nat) : Prop := w.heap.size ≤ k

structure Pair (w : World) (p r : Nat) (D E X Y : List Int) (u1 u2 : Value) (W : World) : Prop where
  vo : Vo p D E W
  tr : Trio w (Above w) r u1 u2 (.slice none 0 0) X Y [] W
  far : ¬ Mine r u1 u2 p
  hp : w.heap.size ≤ p
  ax : Alike 320 D.reverse X.reverse
  ay : Alike 32 E.reverse Y.reverse
  lx : X.length ≤ 320
  ly : Y.length ≤ 32

section
variable {w W W' : World} {p r : Nat} {D E X Y : List Int} {u1 u2 : Value}
theorem Trio.bel {v3 : Value} {Z : List Int} (h : Trio w (Above w) r u1 u2 v3 X Y Z W) : Below w.heap.size w W := h.moved.below (Nat.le_refl _) fun _ hk => hk
theorem Pair.bel (h : Pair w p r D E X Y u1 u2 W) : Below w.heap.size w W := h.tr.moved.below (Nat.le_refl _) fun _ hk => hk
theorem Pair.keep (h : Pair w p r D E X Y u1 u2 W) (hb : Below W.heap.size W W') : Pair w p r D E X Y u1 u2 W' := ⟨h.vo.keep hb, h.tr.keep hb, h.far, h.hp, h.ax, h.ay, h.lx, h.ly⟩
theorem Pair.tx (h : Pair w p r D E X Y u1 u2 W) : Tame X.reverse ∧ Tame Y.reverse :=
  ⟨h.vo.dt.alike h.ax.symm (by rw [List.length_reverse]; exact h.lx), h.vo.et.alike h.ay.symm (by rw [List.length_reverse]; exact h.ly)⟩
/-- The document's, as it is at this very world. -/
theorem Trio.here {S : Nat → Prop} (h : Trio w S r u1 u2 (.slice none 0 0) X Y [] W) : Trio W (Mine r u1 u2) r u1 u2 (.slice none 0 0) X Y [] W ∧ ∀ k, Mine r u1 u2 k → k < W.heap.size :=
  ⟨⟨Moved.refl _ _, .inl rfl, h.home, h.own1, h.own2, h.own3, fun k hk => ⟨.inl (.inr (.inl hk)), (h.in1 k hk).2⟩, fun k hk => ⟨.inl (.inr (.inr hk)), (h.in2 k hk).2⟩, fun k hk => by simp [Value.ownBlock] at hk, h.a12, h.a13, h.a23⟩, fun k hk => by
    rcases hk with rfl | hk | hk
    · exact h.plt
    · exact ownBlk_lt h.own1 hk
    · exact ownBlk_lt h.own2 hk⟩
theorem Trio.mine_above (h : Trio w (Above w) r u1 u2 (.slice none 0 0) X Y [] W) {k : Nat} (hk : Mine r u1 u2 k) : w.heap.size ≤ k := by
  rcases hk with rfl | hk | hk
  · exact h.ps
  · rcases (h.in1 k hk).1 with h1 | h1 <;> exact h1
  · rcases (h.in2 k hk).1 with h1 | h1 <;> exact h1
/-- The program's voice went on: the document's stays. -/
theorem Trio.turned (h : Trio w (Above w) r u1 u2 (.slice none 0 0) X Y [] W) (ht : Turn p W W') (hf : ¬ Mine r u1 u2 p) (hp : w.heap.size ≤ p) : Trio w (Above w) r u1 u2 (.slice none 0 0) X Y [] W' := by
  have hb : ∀ k, Mine r u1 u2 k → W'.heap[k]? = W.heap[k]? := fun k hk => ht.block k (h.here.2 k hk) (fun e => hf (e ▸ hk))
  refine h.of_blocks ?_ (hb r (.inl rfl)) (fun k hk => hb k (.inr (.inl hk))) (fun k hk => hb k (.inr (.inr hk))) (fun k hk => by simp [Value.ownBlock] at hk)
  exact h.moved.went ht.os ht.tape ht.output ht.size fun k hk _ => ht.block k (Nat.lt_of_lt_of_le hk h.moved.size) (by omega)

/-- At the start: both silent. -/
theorem pair_start {T : TypeId} (hb : Below w.heap.size w W) (hv : Vo p (zeros 320) (zeros 32) W) (hp : w.heap.size ≤ p) : Pair w p W.heap.size (zeros 320) (zeros 32) [] [] (.slice none 0 0) (.slice none 0 0) (W.alloc (.cells #[.slice none 0 0, .slice none 0 0] T)) := by
  have hno : ∀ (k : Nat) (q : Prop), (Value.slice none 0 0).ownBlock = some k → q := fun k q hk => by simp [Value.ownBlock] at hk
  have hlt := hv.lt
  refine ⟨hv.alloc _, ⟨.of_below (hb.alloc hb.size _), hb.size, ⟨_, heap_alloc_new W _⟩, World.ownsRow_nil _ 0 _ 1, World.ownsRow_nil _ 0 _ 1, World.ownsRow_nil _ 0 _ 1, fun k hk => hno k _ hk, fun k hk => hno k _ hk, fun k hk => hno k _ hk, fun k hk => hno k _ hk, fun k hk => hno k _ hk, fun k hk => hno k _ hk⟩, ?_, hp, ?_, ?_, Nat.zero_le _, Nat.zero_le _⟩
  · intro h
    rcases h with h | h | h
    · omega
    · exact hno p _ h
    · exact hno p _ h
  · intro i _
    rw [zeros_reverse, zeros_at]
    rfl
  · intro i _
    rw [zeros_reverse, zeros_at]
    rfl

theorem lastI_len_le (l : List Int) (n : Nat) : (lastI l n).length ≤ n := by
  have := congrArg List.length (lastI_reverse l n)
  rw [List.length_reverse, List.length_take] at this
  omega

theorem alike_same {P : PartP} (hP : P.Fine) {l : List Int} (ax : Alike 320 D.reverse X.reverse) (ay : Alike 32 E.reverse Y.reverse) (hD : D.length = 320) (hE : E.length = 32) :
    soundsL P l X Y = soundsL P l D E ∧ Alike 320 (nextD P l D E).reverse (lastI (drovL P l X Y) 320).reverse ∧ Alike 32 (nextE P l D E).reverse (lastI (cameL P l X Y) 32).reverse := by
  obtain ⟨h1, h2, h3⟩ := runS_alike hP.lag_le hP.flen l D.reverse X.reverse E.reverse Y.reverse ax ay
  refine ⟨h1.symm, ?_, ?_⟩
  · have k1 := nextD_alike (p := P) (l := l) (E := E) hD
    have k2 := lastI_alike (drovL P l X Y) 320
    rw [drovL_reverse] at k2
    exact (k1.trans h2).trans k2.symm
  · have k1 := nextE_alike (p := P) (l := l) (D := D) hE
    have k2 := lastI_alike (cameL P l X Y) 32
    rw [cameL_reverse] at k2
    exact (k1.trans h3).trans k2.symm

/-- Both have run over one part. -/
theorem Pair.ran {W2 : World} {t1 t2 : Value} {P : PartP} (hP : P.Fine) {l : List Int} (h : Pair w p r D E X Y u1 u2 W) (ht : Turn p W W') (hv : Vo p (nextD P l D E) (nextE P l D E) W')
    (hm : Trio W' (Mine r u1 u2) r t1 t2 (.slice none 0 0) (lastI (drovL P l X Y) 320) (lastI (cameL P l X Y) 32) [] W2) :
    Pair w p r (nextD P l D E) (nextE P l D E) (lastI (drovL P l X Y) 320) (lastI (cameL P l X Y) 32) t1 t2 W2 ∧ ∀ (a : Option Addr) (n : Nat) (zs : List Int), Zs W' a n zs → (0 < n → ∀ x, a = some x → W.heap.size ≤ x.block) → Zs W2 a n zs := by
  have hmine : ∀ k, Mine r u1 u2 k → w.heap.size ≤ k ∧ k < W.heap.size := fun k hk => ⟨h.tr.mine_above hk, h.tr.here.2 k hk⟩
  have htr := h.tr.turned ht h.far h.hp
  have hsz := htr.moved.size
  have hno : ∀ (k : Nat) (q : Prop), (Value.slice none 0 0).ownBlock = some k → q := fun k q hk => by simp [Value.ownBlock] at hk
  have hlift : ∀ k, (Mine r u1 u2 k ∨ W'.heap.size ≤ k) → (Above w k ∨ w.heap.size ≤ k) := fun k hk => by
    rcases hk with hk | hk
    · exact .inr (hmine k hk).1
    · exact .inr (by omega)
  obtain ⟨_, ax, ay⟩ := alike_same hP (l := l) h.ax h.ay h.vo.dl h.vo.el
  refine ⟨⟨hv.of_block (hm.moved.block p hv.lt h.far), ⟨?_, htr.ps, hm.home, hm.own1, hm.own2, hm.own3, fun k hk => ⟨hlift k (hm.in1 k hk).1, (hm.in1 k hk).2⟩, fun k hk => ⟨hlift k (hm.in2 k hk).1, (hm.in2 k hk).2⟩, fun k hk => hno k _ hk, hm.a12, hm.a13, hm.a23⟩, ?_, h.hp, ax, ay, lastI_len_le _ _, lastI_len_le _ _⟩, ?_⟩
  · exact htr.moved.went hm.moved.os hm.moved.tape hm.moved.output hm.moved.size fun k hk _ => hm.moved.block k (by omega) (fun hs => by have := (hmine k hs).1; omega)
  · have hlt := hv.lt
    intro hf
    rcases hf with rfl | hf | hf
    · exact h.far (.inl rfl)
    · rcases (hm.in1 p hf).1 with h1 | h1
      · exact h.far h1
      · omega
    · rcases (hm.in2 p hf).1 with h1 | h1
      · exact h.far h1
      · omega
  · intro a n zs hz hn
    exact hm.moved.zs hz fun h0 x hx hs => by
      have h1 := hn h0 x hx
      have h2 := (hmine _ hs).2
      omega
/-- What is older than the law's own is not the document's. -/
theorem Pair.older (h : Pair w p r D E X Y u1 u2 W) {a : Option Addr} {n : Nat} {zs : List Int} (hz : Zs w a n zs) : 0 < n → ∀ x, a = some x → ¬ Mine r u1 u2 x.block := fun h0 x hx hs => by
  obtain ⟨b, off, e, hb, _⟩ := hz.at_ h0
  rw [hx] at e
  cases e
  have := h.tr.mine_above hs
  simp only at this hb
  omega

/-- A part's variable beside the two. -/
structure Pbox (w : World) (p r : Nat) (D E X Y : List Int) (u1 u2 : Value) (g : Nat) (CA : Array Value) (W : World) : Prop where
  pr : Pair w p r D E X Y u1 u2 W
  bx : W.heap[g]? = some (.cells CA 31 (0, 0))
  gp : g ≠ p
theorem Pbox.keep {g : Nat} {CA : Array Value} (h : Pbox w p r D E X Y u1 u2 g CA W) (hb : Below W.heap.size W W') : Pbox w p r D E X Y u1 u2 g CA W' :=
  ⟨h.pr.keep hb, (hb.block g (Array.getElem?_eq_some_iff.1 h.bx).1).trans h.bx, h.gp⟩
theorem Pair.boxed (h : Pair w p r D E X Y u1 u2 W) (CA : Array Value) : Pbox w p r D E X Y u1 u2 W.heap.size CA (W.alloc (.cells CA 31)) :=
  ⟨h.keep ((Below.refl _ _).alloc (Nat.le_refl _) _), heap_alloc_new W _, fun e => by have := h.vo.lt; omega⟩
theorem Pbox.turned {g : Nat} {CA : Array Value} (h : Pbox w p r D E X Y u1 u2 g CA W) (ht : Turn p W W') : W'.heap[g]? = some (.cells CA 31 (0, 0)) :=
  (ht.block g (Array.getElem?_eq_some_iff.1 h.bx).1 h.gp).trans h.bx
theorem box_loaded {g : Nat} {c0 c1 c2 c3 c4 c5 c6 c7 c8 : Value} (h : W.heap[g]? = some (.cells #[c0, c1, c2, c3, c4, c5, c6, c7, c8] 31 (0, 0))) : (Instr.loadAt 31 (.pointer (some ⟨g, 0, none⟩))).run Try.prog W = .ok (.agg #[c0, c1, c2, c3, c4, c5, c6, c7, c8]) W := by
  simp only [Instr.loadAt, Instr.sureAddr, Sem.run_bind, Sem.run_pure, Result.andThen_ok]
  rw [run_loadVar_row W g _ _ _ (0, 0) _ h Try.underlying31 rfl size_part]

/-- The document's run, behind the program's own. -/
theorem Pair.doc (v : PartV) (h : Pair w p r D E X Y u1 u2 W) (ht : Turn p W W') (hv : Vo p (nextD v.part v.pl D E) (nextE v.part v.pl D E) W') (hin : PartIn w v) (hg : v.good = true) :
    Calls Try.prog 16 #[.pointer (some ⟨r, 0, none⟩), .slice v.a v.len v.cap, .int .i64 v.loud, .int .i64 v.lag, .agg #[.int .i64 (v.taps 0), .int .i64 (v.taps 1), .int .i64 (v.taps 2), .int .i64 (v.taps 3), .int .i64 (v.taps 4)], .slice v.fa v.flen v.fcap] W' fun e w' =>
      ∃ X' Y' t1 t2 g c, e = .returned (.slice (some ⟨g, 0, none⟩) v.len c) ∧ Zs w' (some ⟨g, 0, none⟩) v.len (soundsL v.part v.pl D E) ∧ Pair w p r (nextD v.part v.pl D E) (nextE v.part v.pl D E) X' Y' t1 t2 w' ∧ ∀ (a : Option Addr) (n : Nat) (zs : List Int), Zs W' a n zs → (0 < n → ∀ x, a = some x → W.heap.size ≤ x.block) → Zs w' a n zs := by
  have htr := h.tr.turned ht h.far h.hp
  have hin' := hin.keep htr.bel
  obtain ⟨h1, h2⟩ := htr.here
  have hP : v.part.Fine := (goodB_fine hg).1
  refine (rrun_any r u1 u2 X Y (Mine r u1 u2) v.a v.len v.cap v.pl v.loud v.lag (v.taps 0) (v.taps 1) (v.taps 2) (v.taps 3) (v.taps 4) v.fa v.flen v.fcap v.fl W' h1 h2 h.lx h.ly h.tx.1 h.tx.2 hin'.zp hin'.zf (h.older hin.zp) (h.older hin.zf) hg).mono ?_
  rintro e w' ⟨t1, t2, g, c, rfl, _, hz, hm⟩
  obtain ⟨k1, k2⟩ := Pair.ran (P := v.part) hP (l := v.pl) h ht hv hm
  have k3 := (alike_same hP (l := v.pl) h.ax h.ay h.vo.dl h.vo.el).1
  refine ⟨_, _, t1, t2, g, c, rfl, ?_, k1, k2⟩
  rw [← k3]
  exact hz
end

end Go.Proofs.Ytbnkapeahbegaaa
