/- What one writing more comes to, whatever is asked for: what the laws of chapter 4 share. -/
import Derived.Test.YtinjkffkkmbioaaRencB
namespace Go.Proofs.Ytinjkffkkmbioaa
open Go.RowKit

/-- A writer that has come up by writings. -/
def WOk (s : Es) : Prop := InvE s ∧ ∃ E R V, SpOk E ∧ Wrote E R V s

theorem initE_ok : WOk initE := ⟨initE_inv, startE, 0, 0, startE_ok, initE_wrote⟩

theorem WOk.step {x : AV} (hx : mayA x) {s : Es} (h : WOk s) : WOk (writeA x s) ∧ tellS s ≤ tellS (writeA x s) ∧ tellS (writeA x s) ≤ tellS s + 48 := by
  obtain ⟨hi, E, R, V, hE, hw⟩ := h
  have h1 := writeA_wrote hx hi hE hw
  have h2 := spanW_ok (okW_of hx) hE
  refine ⟨⟨writeA_inv hx hi, _, _, _, h2, h1⟩, ?_, ?_⟩
  · rw [tellS_is hw, tellS_is h1]
    exact spanW_tell (okW_of hx) hE R
  · rw [tellS_is hw, tellS_is h1]
    exact spanW_grows (okW_of hx) hE R

theorem WOk.tell {s : Es} (h : WOk s) : -100 ≤ tellS s ∧ tellS s ≤ s.cnt := by
  have := lenN_in h.1.wide h.1.pre.rhigh
  unfold tellS
  omega

/-- Behind one writing, whatever is asked for. -/
structure Next (x : AV) (s s2 : Es) : Prop where
  ok : WOk s2
  low : tellS s ≤ tellS s2
  high : tellS s2 ≤ tellS s + 48
  cnt : s2.cnt ≤ s.cnt + 48
  may : mayA x → s2 = writeA x s
  not : ¬ mayA x → s2 = s

theorem WroteSo.next {x : AV} {S : Nat → Prop} {p : Nat} {s : Es} {w : World} {e : Ending} {w' : World} (h : WroteSo x S p s w e w') (hs : WOk s) :
    ∃ (z err : Int) (s2 : Es) (S' : Nat → Prop), e = .returned (.tuple #[.int .i64 z, .int .i64 err]) ∧ Wd S' p s2 w' ∧ Went S w S' w' ∧ Next x s s2 ∧ (mayA x → z = (wrA x).v ∧ err = 0) ∧ (¬ mayA x → err = 1) := by
  by_cases hm : mayA x
  · obtain ⟨h1, S', h2, h3⟩ := h.1 hm
    obtain ⟨g1, g2, g3⟩ := hs.step hm
    exact ⟨_, _, _, S', h1, h2, h3, ⟨g1, g2, g3, writeA_cnt x hm s, fun _ => rfl, fun hn => absurd hm hn⟩, fun _ => ⟨rfl, rfl⟩, fun hn => absurd hm hn⟩
  · obtain ⟨⟨z, h1⟩, S', h2, h3⟩ := h.2 hm
    exact ⟨z, _, s, S', h1, h2, h3, ⟨hs, Int.le_refl _, by omega, by omega, fun hm' => absurd hm' hm, fun _ => rfl⟩, fun hm' => absurd hm' hm, fun _ => rfl⟩

/-- The arguments, one by one, as they are handed on. -/
structure AskedAll (w : World) (a : Option Addr) (len : Nat) (vs : Nat → ActV) : Prop where
  cells : 0 < len → ∃ b off, a = some ⟨b, off, none⟩ ∧ ∀ W, Below w.heap.size w W → ∀ i, i < len → ActC W b (off + i * 5) (vs i) ∧ Asked W ((vs i).z 0) ((vs i).z 1) ((vs i).z 2) ((vs i).z 3) (vs i).a (vs i).len (vs i).cap ((vs i).q.take (vs i).len)

theorem askedAll {w : World} {a : Option Addr} {len cap : Nat} {vs : Nat → ActV} (h : ActsAt 4 w a len cap vs) (hs : ∀ i, i < len → (vs i).cap * 8 ≤ 140737488351232) : AskedAll w a len vs := by
  refine ⟨fun h0 => ?_⟩
  obtain ⟨b, off, ha, _, hc⟩ := (acts_at4 h).2 h0
  refine ⟨b, off, ha, fun W hb i hi => ?_⟩
  have hk := (hc i hi).keep hb (Nat.le_refl _)
  exact ⟨hk, hk.row, fun h => (hk.none h).2, by have := hs i hi; have := hk.le; omega, hk.bd 0 (by decide), hk.bd 1 (by decide), hk.bd 2 (by decide), hk.bd 3 (by decide)⟩

theorem tell_first : tellS initE = 1 := by decide +kernel

end Go.Proofs.Ytinjkffkkmbioaa
