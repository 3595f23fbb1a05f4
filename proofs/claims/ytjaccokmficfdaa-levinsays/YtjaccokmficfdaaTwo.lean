/- Two lists of numbers that a call grows, one beside the other. -/
import Derived.Test.YtjaccokmficfdaaNumB
import Derived.Test.YtjaccokmficfdaaOwnX
import Derived.Deep.AppendLies
import Derived.OwnWalk
namespace Go.Proofs.Ytjaccokmficfdaa
open Go.RowKit




structure Two (B : Nat) (v1 v2 : Value) (xs ys : List Int) (w : World) : Prop where
  own1 : w.ownsRow B 2 1 v1 xs.length (xs.map (Value.int .i64))
  own2 : w.ownsRow B 2 1 v2 ys.length (ys.map (Value.int .i64))
  apart : ∀ k, v1.ownBlock = some k → v2.ownBlock ≠ some k

theorem Two.nil (B : Nat) (w : World) : Two B (.slice none 0 0) (.slice none 0 0) [] [] w :=
  ⟨World.ownsRow_nil w B _ 1, World.ownsRow_nil w B _ 1, fun k hk => by simp [Value.ownBlock] at hk⟩

section
variable {B : Nat} {v1 v2 : Value} {xs ys : List Int} {w w' : World}

theorem Two.keep (h : Two B v1 v2 xs ys w) (hb : Below w.heap.size w w') : Two B v1 v2 xs ys w' :=
  ⟨ownsRow_of_block h.own1 fun k hk => hb.block k (ownBlock_lt h.own1 hk), ownsRow_of_block h.own2 fun k hk => hb.block k (ownBlock_lt h.own2 hk), h.apart⟩
theorem Two.turn (h : Two B v1 v2 xs ys w) : Two B v2 v1 ys xs w := ⟨h.own2, h.own1, fun k h1 h2 => h.apart k h2 h1⟩
/-- One more in the first. -/
theorem Two.push (h : Two B v1 v2 xs ys w) {z : Int} {n' g cap : Nat} (hn : n' = xs.length + 1) (ho : w'.ownsRow B 2 1 (.slice (some ⟨g, 0, none⟩) n' cap) n' ((xs ++ [z]).map (Value.int .i64)))
    (hg : w.grownBy w' v1.ownBlock) (hat : v1.ownBlock = some g ∨ w.heap.size ≤ g) : Two B (.slice (some ⟨g, 0, none⟩) n' cap) v2 (xs ++ [z]) ys w' := by
  subst hn
  refine ⟨by rw [List.length_append]; exact ho, ownsRow_of_block h.own2 fun k hk => hg.block k (ownBlock_lt h.own2 hk) fun e => h.apart k e.symm hk, fun k hk h2 => ?_⟩
  obtain rfl : g = k := by simpa [Value.ownBlock] using hk
  rcases hat with h1 | h1
  · exact h.apart _ h1 h2
  · have := ownBlock_lt h.own2 h2
    omega
theorem Two.below (h : Two B v1 v2 xs ys w) {a : World} (hb : Below B a w) (hg : w.grownBy w' v1.ownBlock) (hB : B ≤ w.heap.size) : Below B a w' :=
  hb.grown hg hB (fun k hk => (h.own1.lt k hk).1)
end

/-- 'append' of one number. -/
theorem wpList_push_int64 {ops : Array Oper} {rest : List Oper} {o : Oper} {a : Act} {Q : Exit → Act → World → Prop} {w : World} (B m : Nat) (v : Value) (zs : List Int) (y : Int) (hm : zs.length = m) (hown : w.ownsRow B 2 1 v zs.length (zs.map (Value.int .i64))) (hn : m ≤ 1000) (hB : B ≤ w.heap.size)
    (hgd : o.guard = none) (s x : Operand) (ho : o.op = .call { callee := .builtin .append, args := #[s, x], argTypes := #[23, 23] }) (hs : a.eval s = v) (hx : a.eval x = .slice (some ⟨w.heap.size, 0, none⟩) 1 1)
    (h : ∀ g cap w', w'.ownsRow B 2 1 (.slice (some ⟨g, 0, none⟩) (m + 1) cap) (m + 1) ((zs ++ [y]).map (Value.int .i64)) → w.grownBy w' v.ownBlock → (v.ownBlock = some g ∨ w.heap.size ≤ g) → wpList Try.prog ops Q rest (a.put o.dst (.slice (some ⟨g, 0, none⟩) (m + 1) cap)) w') :
    wpList Try.prog ops Q (o :: rest) a (w.alloc (.cells #[.int .i64 y] 2)) := by
  subst hm
  obtain ⟨i, hi, hzz⟩ := Option.map_eq_some_iff.1 info_int64
  simp only [Prod.mk.injEq] at hzz
  obtain ⟨hz, hsz, hby⟩ := hzz
  refine wpList_append_lies _ hgd s x 23 ho B 2 i (.int .i64 0) 1 8 Try.underlying23 hi hz hsz hby rfl (by decide) v zs.length _ hs (hown.alloc _) ⟨w.heap.size, 0, none⟩ 1 1 [.int .i64 y] hx rfl
    (World.news_of_block (heap_alloc_new w _)) (by intro u hu; simp at hu; subst hu; rfl) (by decide) (by unfold maxLen; omega) (by omega) (by simp; omega) _ rfl ?_
  intro g cap w' h4 h5 h6 _
  refine h g cap w' (by simpa using h4) (grown_after ((Below.refl _ w).alloc (Nat.le_refl _) _) h5) ?_
  rcases h6 with h6 | h6
  · exact .inl h6
  · right; rw [h6]; simp

end Go.Proofs.Ytjaccokmficfdaa
