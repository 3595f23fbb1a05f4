/- The document's own taker of bytes: some bytes taken; a frame more, as a step of a region that draws. -/
import Derived.Test.YtgiellpepnbpcaaDoorTocZc
namespace Go.Proofs.YtgiellpepnbpcaaDoor
open Go.RowKit

/-- So many bytes, where there are as many. -/
theorem some_any (g : Nat) (a0 : Option Addr) (n0 c0 : Nat) (bs : List Nat) (bad : Bool) (r : List Nat) (k : Nat) (w0 w : World) (h : Tak w0 w g a0 n0 c0 bs bad r) (hk : k ≤ r.length) :
    Calls Tryd.prog 33 #[.pointer (some ⟨g, 0, none⟩), .int .i64 (k : Nat)] w fun e w' => (∃ a8 c8, e = .returned (.slice a8 k c8) ∧ Ob w.heap.size w' (.slice a8 k c8) (r.take k)) ∧ Tak w0 w' g a0 n0 c0 bs bad (r.drop k) ∧ Only g w w' := by
  obtain ⟨a, n, c, hn, ht, hs, _, hb⟩ := h.now
  refine (some_in g a n c bad r k w ht hb (by omega)).mono ?_
  rintro e w' ⟨h1, ⟨a1, n1, c1, h2, h3⟩, h4⟩
  exact ⟨h1, h.step h4 ⟨a1, n1, c1, h2, hs.trans h3⟩, h4⟩

/-- One frame more: u lies in no block of the list's. -/
theorem Frs.push2 {B : Nat} {W w' : World} {v u : Value} {fs : List (List Nat)} {f : List Nat} (h : Frs B W v fs) (hu : Ob B W u f) (hun : ∀ k, u.ownBlock = some k → v.ownBlock ≠ some k) (hsm : ∀ x ∈ f, x < 256) (hsh : f.length ≤ 140737488351232)
    {us : List Value} (hus : W.ownsRow B 29 1 v fs.length us) {g n' cap : Nat} (hn : n' = fs.length + 1) (ho : w'.ownsRow B 29 1 (.slice (some ⟨g, 0, none⟩) n' cap) n' (us ++ [u])) (hg : W.grownBy w' v.ownBlock) (hat : v.ownBlock = some g ∨ g = W.heap.size) :
    Frs B w' (.slice (some ⟨g, 0, none⟩) n' cap) (fs ++ [f]) := by
  subst hn
  have hlen : us.length = fs.length := by simpa using hus.1
  obtain ⟨⟨us', h1, h2⟩, h3, h4⟩ := h
  have husE : us' = us := by
    rcases h1.2 with ⟨rfl, hz⟩ | ⟨g1, c1, cur1, hv1, _, hh1, _, _, _, ht1⟩
    · have e1 := h1.1
      have e2 := hus.1
      rw [hz] at e1 e2
      exact (List.eq_nil_of_length_eq_zero (by simpa using e1)).trans (List.eq_nil_of_length_eq_zero (by simpa using e2)).symm
    · rcases hus.2 with ⟨hv2, _⟩ | ⟨g2, c2, cur2, hv2, _, hh2, _, _, _, ht2⟩
      · rw [hv1] at hv2; cases hv2
      · rw [hv1] at hv2
        cases hv2
        rw [hh1] at hh2
        cases hh2
        rw [← ht1, ← ht2]
  subst husE
  have hA : ∀ k, k < W.heap.size → v.ownBlock ≠ some k → w'.heap[k]? = W.heap[k]? := fun k hk hne => hg.block k hk (fun e => hne e.symm)
  refine ⟨⟨us' ++ [u], by rw [List.length_append]; exact ho, fun i f' hf' => ?_⟩, ?_, ?_⟩
  · rcases Nat.lt_trichotomy i fs.length with hi | hi | hi
    · rw [List.getElem?_append_left hi] at hf'
      obtain ⟨u', g1, g2, g3⟩ := h2 i f' hf'
      refine ⟨u', by rw [List.getElem?_append_left (by omega)]; exact g1, ownsRow_of_block g2 fun k hk => hA k (ownBlock_lt g2 hk) (fun e => g3 k e hk), fun k hk hk' => ?_⟩
      obtain rfl : g = k := by simpa [Value.ownBlock] using hk
      rcases hat with h5 | h5
      · exact g3 g h5 hk'
      · have := ownBlock_lt g2 hk'; omega
    · subst hi
      rw [List.getElem?_append_right (Nat.le_refl _), Nat.sub_self] at hf'
      obtain rfl : f = f' := by simpa using hf'
      refine ⟨u, by rw [← hlen, List.getElem?_append_right (Nat.le_refl _), Nat.sub_self]; rfl, ownsRow_of_block hu fun k hk => hA k (ownBlock_lt hu hk) (hun k hk), fun k hk hk' => ?_⟩
      obtain rfl : g = k := by simpa [Value.ownBlock] using hk
      rcases hat with h5 | h5
      · exact hun g hk' h5
      · have := ownBlock_lt hu hk'; omega
    · rw [List.getElem?_eq_none (by simp; omega)] at hf'; cases hf'
  · intro f' hf'
    rcases List.mem_append.1 hf' with h5 | h5
    · exact h3 f' h5
    · obtain rfl : f' = f := by simpa using h5
      exact hsm
  · intro f' hf'
    rcases List.mem_append.1 hf' with h5 | h5
    · exact h4 f' h5
    · obtain rfl : f' = f := by simpa using h5
      exact hsh

/-- 'append(.., f)' as one step of a region that draws: f's slice has been laid into a block of its own, H. -/
theorem step_push_frame {ops : Array Oper} {o : Oper} {a : Act} {W : World} {K : Act → World → Prop} {Q : Exit → Act → World → Prop} {E : Prop} (B : Nat) (v : Value) (fs : List (List Nat)) (ua : Option Addr) (un uc : Nat) (f : List Nat) (H : Nat)
    (h : Frs B W v fs) (hu : Ob B W (.slice ua un uc) f) (hlf : f.length = un) (hun : ∀ k, (Value.slice ua un uc).ownBlock = some k → v.ownBlock ≠ some k) (hsm : ∀ x ∈ f, x < 256) (hsh : un ≤ 140737488351232) (hm : fs.length ≤ 1000) (hB : B ≤ W.heap.size)
    (hnew : W.heap[H]? = some (.cells #[.slice ua un uc] 29))
    (hgd : o.guard = none) (s x : Operand) (ho : o.op = .call { callee := .builtin .append, args := #[s, x], argTypes := #[23, 23] }) (hs : a.eval s = v) (hx : a.eval x = .slice (some ⟨H, 0, none⟩) 1 1)
    (hk : ∀ g cap w', Frs B w' (.slice (some ⟨g, 0, none⟩) (fs.length + 1) cap) (fs ++ [f]) → Below B W w' → W.grownBy w' v.ownBlock → K (a.put o.dst (.slice (some ⟨g, 0, none⟩) (fs.length + 1) cap)) w') :
    if Region.wanted o (yielded ops a.tmps) = true then Oper.wp Tryd.prog o a W K Q else E := by
  obtain ⟨us, h1, h2⟩ := h.own
  obtain ⟨i, hi, hzz⟩ := Option.map_eq_some_iff.1 info_bytes
  simp only [Prod.mk.injEq] at hzz
  obtain ⟨hz, hsz, hby⟩ := hzz
  refine step_append_lies _ hgd s x 23 ho B 29 i (.slice none 0 0) 1 24 Tryd.underlying23 hi hz hsz hby rfl (by decide) v fs.length us hs h1 ⟨H, 0, none⟩ 1 1 [.slice ua un uc] hx rfl
    (World.news_of_block hnew) (by intro u hu; simp at hu; subst hu; rfl) (by decide) (by unfold maxLen; omega) (by omega) hB _ rfl ?_
  intro g cap w' h4 h5 h6 _
  refine hk g cap w' ?_ ((Below.refl B W).grown h5 hB (fun k hk => (h1.lt k hk).1)) h5
  exact Frs.push2 h hu hun hsm (by omega) h1 rfl h4 h5 h6

end Go.Proofs.YtgiellpepnbpcaaDoor
