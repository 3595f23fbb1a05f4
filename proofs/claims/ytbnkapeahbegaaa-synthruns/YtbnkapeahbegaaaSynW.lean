/- Parts among a law's arguments: how one is loaded, what a run of it comes to. -/
import Derived.Test.YtbnkapeahbegaaaSynV
import Derived.Test.YtbnkapeahbegaaaSynP
namespace Go.Proofs.Ytbnkapeahbegaaa
open Go.RowKit

def PartV.pl (v : PartV) : List Int := v.q.take v.len
def PartV.fl (v : PartV) : List Int := v.fq.take v.flen
def PartV.tl (v : PartV) : List Int := [v.taps 0, v.taps 1, v.taps 2, v.taps 3, v.taps 4]
def PartV.part (v : PartV) : PartP := ⟨v.loud, v.lag.toNat, v.tl, v.fl⟩
def PartV.good (v : PartV) : Bool := goodB v.pl v.loud v.lag v.tl v.fl

structure PartIn (w : World) (v : PartV) : Prop where
  zp : Zs w v.a v.len v.pl
  zf : Zs w v.fa v.flen v.fl
  l1 : v.len ≤ 9223372036854775807
  l2 : v.flen ≤ 9223372036854775807
  c1 : v.len ≤ v.cap
theorem PartIn.keep {w w' : World} {v : PartV} (h : PartIn w v) (hb : Below w.heap.size w w') : PartIn w' v := ⟨h.zp.keep hb, h.zf.keep hb, h.l1, h.l2, h.c1⟩
theorem PartIn.of_ok {w : World} {v : PartV} (h : PartOk w v) : PartIn w v := by
  obtain ⟨h1, h2, _⟩ := Zs.of_isRow h.row
  obtain ⟨h3, h4, _⟩ := Zs.of_isRow h.filt
  unfold maxLen at h2 h4
  refine ⟨h1, h3, by omega, by omega, ?_⟩
  rcases h.row with ⟨_, hl, hc, _⟩ | ⟨_, _, hl, _⟩
  · omega
  · exact hl

/-- The nine cells of a part. -/
def PartCells (W : World) (b o : Nat) (v : PartV) : Prop :=
  W.cell? ⟨b, o, none⟩ = some (.slice v.a v.len v.cap) ∧ W.cell? ⟨b, o + 1, none⟩ = some (.int .i64 v.loud) ∧ W.cell? ⟨b, o + 2, none⟩ = some (.int .i64 v.lag) ∧ W.cell? ⟨b, o + 3, none⟩ = some (.int .i64 (v.taps 0)) ∧ W.cell? ⟨b, o + 4, none⟩ = some (.int .i64 (v.taps 1)) ∧ W.cell? ⟨b, o + 5, none⟩ = some (.int .i64 (v.taps 2)) ∧ W.cell? ⟨b, o + 6, none⟩ = some (.int .i64 (v.taps 3)) ∧ W.cell? ⟨b, o + 7, none⟩ = some (.int .i64 (v.taps 4)) ∧ W.cell? ⟨b, o + 8, none⟩ = some (.slice v.fa v.flen v.fcap)
theorem PartCells.keep {w W : World} {b o : Nat} {v : PartV} (h : PartCells w b o v) (hb : Below w.heap.size w W) : PartCells W b o v := by
  have hlt : b < w.heap.size := World.block_lt_of_cell? w _ h.1
  have e : ∀ k, W.cell? ⟨b, k, none⟩ = w.cell? ⟨b, k, none⟩ := fun k => hb.cell (p := ⟨b, k, none⟩) hlt
  unfold PartCells
  simp only [e]
  exact h

theorem parts_in {w : World} {a : Option Addr} {len cap : Nat} {vs : Nat → PartV} (h : PartsAt w a len cap vs) : len ≤ 9223372036854775807 ∧ (0 < len → ∃ b off, a = some ⟨b, off, none⟩ ∧ ∀ i, i < len → PartIn w (vs i) ∧ PartCells w b (off + i * 9) (vs i)) := by
  rcases h with ⟨_, hl, _⟩ | ⟨x, ha, hl, hm, hc⟩
  · exact ⟨by omega, fun h => by omega⟩
  · unfold maxLen at hm
    refine ⟨by omega, fun h0 => ?_⟩
    obtain ⟨b, o, s⟩ := x
    have hs : s = none := by
      have h1 := (hc 0 (by omega)).2 0 (by decide)
      exact World.cell?_spot h1
    subst hs
    refine ⟨b, o, ha, fun i hi => ?_⟩
    obtain ⟨hok, hcell⟩ := hc i (by omega)
    have hj : ∀ j, j < 9 → w.cell? ⟨b, o + i * 9 + j, none⟩ = (vs i).cells[j]? := fun j hj => by
      have := hcell j hj
      rw [Addr.add_lit, Addr.add_lit] at this
      exact this
    exact ⟨.of_ok hok, hj 0 (by decide), hj 1 (by decide), hj 2 (by decide), hj 3 (by decide), hj 4 (by decide), hj 5 (by decide), hj 6 (by decide), hj 7 (by decide), hj 8 (by decide)⟩

theorem run_no (p : Nat) (v : PartV) (W : World) (hp : PartIn W v) (hg : v.good = false) :
    Calls Try.prog 11 #[.pointer (some ⟨p, 0, none⟩), .agg #[.slice v.a v.len v.cap, .int .i64 v.loud, .int .i64 v.lag, .int .i64 (v.taps 0), .int .i64 (v.taps 1), .int .i64 (v.taps 2), .int .i64 (v.taps 3), .int .i64 (v.taps 4), .slice v.fa v.flen v.fcap]] W fun e w' => e = .returned (.tuple #[.slice none 0 0, .int .i64 1]) ∧ Below W.heap.size W w' :=
  run_bad p v.a v.len v.cap v.pl v.loud v.lag _ _ _ _ _ v.fa v.flen v.fcap v.fl W hp.zp hp.zf hp.l1 hp.l2 hg
theorem run_yes (p : Nat) (D E : List Int) (v : PartV) (W : World) (hv : Vo p D E W) (hp : PartIn W v) (hg : v.good = true) :
    Calls Try.prog 11 #[.pointer (some ⟨p, 0, none⟩), .agg #[.slice v.a v.len v.cap, .int .i64 v.loud, .int .i64 v.lag, .int .i64 (v.taps 0), .int .i64 (v.taps 1), .int .i64 (v.taps 2), .int .i64 (v.taps 3), .int .i64 (v.taps 4), .slice v.fa v.flen v.fcap]] W fun e w' =>
      ∃ g, e = .returned (.tuple #[.slice (some ⟨g, 32, none⟩) v.len v.len, .int .i64 0]) ∧ W.heap.size ≤ g ∧ Zs w' (some ⟨g, 32, none⟩) v.len (soundsL v.part v.pl D E) ∧ Vo p (nextD v.part v.pl D E) (nextE v.part v.pl D E) w' ∧ Turn p W w' :=
  run_good p D E v.a v.len v.cap v.pl v.loud v.lag _ _ _ _ _ v.fa v.flen v.fcap v.fl W hv hp.zp hp.zf hg
theorem PartIn.few {W : World} {v : PartV} (hp : PartIn W v) (hg : v.good = true) : 1 ≤ v.len ∧ v.len ≤ 480 := by
  have := (goodB_fine hg).2
  rw [hp.zp.len] at this
  exact ⟨this.1, this.2.1⟩

/-- Whatever the part: the voice is a voice behind it. -/
theorem run_part (p : Nat) (D E : List Int) (v : PartV) (W : World) (hv : Vo p D E W) (hp : PartIn W v) :
    Calls Try.prog 11 #[.pointer (some ⟨p, 0, none⟩), .agg #[.slice v.a v.len v.cap, .int .i64 v.loud, .int .i64 v.lag, .int .i64 (v.taps 0), .int .i64 (v.taps 1), .int .i64 (v.taps 2), .int .i64 (v.taps 3), .int .i64 (v.taps 4), .slice v.fa v.flen v.fcap]] W fun e w' =>
      ∃ a' n' x os D' E', e = .returned (.tuple #[.slice a' n' n', .int .i64 x]) ∧ n' ≤ 480 ∧ Zs w' a' n' os ∧ (∀ k : Nat, -16777216 ≤ os[k]?.getD 0 ∧ os[k]?.getD 0 ≤ 16777216) ∧ Vo p D' E' w' ∧ Turn p W w' := by
  cases hg : v.good with
  | false =>
    refine (run_no p v W hp hg).mono ?_
    rintro e w' ⟨rfl, hb⟩
    exact ⟨none, 0, 1, [], D, E, rfl, by decide, Zs.nil _ _, fun k => by rw [List.getElem?_nil]; exact ⟨by decide, by decide⟩, hv.keep hb, .of_below hb⟩
  | true =>
    refine (run_yes p D E v W hv hp hg).mono ?_
    rintro e w' ⟨g, rfl, _, hz, hv', ht⟩
    refine ⟨_, _, _, _, _, _, rfl, (hp.few hg).2, hz, fun k => ?_, hv', ht⟩
    by_cases hk : k < (soundsL v.part v.pl D E).length
    · rw [List.getElem?_eq_getElem hk]
      exact runS_bounds _ _ _ _ _ (List.getElem_mem hk)
    · rw [List.getElem?_eq_none (by omega)]
      exact ⟨by decide, by decide⟩

end Go.Proofs.Ytbnkapeahbegaaa
