/- What the plain calls of package tabs, and of the document's own answers beside them, come to: tables of probabilities, rates, orders, edges. -/
import Derived.Test.YtklpicfeajmadaaFixS
import Derived.Deep.AppendSrc
namespace Go.Proofs.Ytklpicfeajmadaa
open Go.RowKit

/-- A slice of numbers that the call has made: they lie in a block from B on, none frozen. -/
def NewRow (e : TypeId) (B : Nat) (w : World) (a : Option Addr) (zs : List Int) : Prop :=
  zs = [] ∨ ∃ b c, a = some ⟨b, 0, none⟩ ∧ B ≤ b ∧ w.heap[b]? = some (.cells c e (0, 0)) ∧ ∀ i, i < zs.length → c[i]? = some (.int .i64 (zs[i]?.getD 0))

theorem NewRow.none {e : TypeId} {B : Nat} {w : World} {a : Option Addr} : NewRow e B w a [] := .inl rfl

theorem NewRow.below {e : TypeId} {B B' : Nat} {w w' : World} {a : Option Addr} {zs : List Int} (h : NewRow e B w a zs) (hb : Below B' w w') (hB : w.heap.size ≤ B') : NewRow e B w' a zs := by
  rcases h with h | ⟨b, c, ha, hbb, hh, hc⟩
  · exact .inl h
  · refine .inr ⟨b, c, ha, hbb, ?_, hc⟩
    rw [hb.block b (Nat.lt_of_lt_of_le (Array.getElem?_eq_some_iff.1 hh).1 hB)]
    exact hh

theorem NewRow.mono {e : TypeId} {B B' : Nat} {w : World} {a : Option Addr} {zs : List Int} (h : NewRow e B w a zs) (hB : B' ≤ B) : NewRow e B' w a zs := by
  rcases h with h | ⟨b, c, ha, hbb, hh, hc⟩
  · exact .inl h
  · exact .inr ⟨b, c, ha, Nat.le_trans hB hbb, hh, hc⟩

theorem NewRow.cells {e : TypeId} {B : Nat} {w : World} {a : Option Addr} {zs : List Int} (h : NewRow e B w a zs) (hz : 0 < zs.length) :
    ∃ b, a = some ⟨b, 0, .none⟩ ∧ B ≤ b ∧ b < w.heap.size ∧ ∀ i, i < zs.length → w.cell? ⟨b, i, .none⟩ = some (.int .i64 (zs[i]?.getD 0)) := by
  rcases h with h | ⟨b, c, ha, hbb, hh, hc⟩
  · subst h; simp at hz
  · refine ⟨b, ha, hbb, (Array.getElem?_eq_some_iff.1 hh).1, fun i hi => ?_⟩
    simp [World.cell?, hh, hc i hi]

theorem map_at (zs : List Int) (i : Nat) (h : i < zs.length) : ((zs.map (Value.int .i64)).toArray)[i]? = some (.int .i64 (zs[i]?.getD 0)) := by
  simp [List.getElem?_eq_getElem h]

theorem newRow_alloc (w : World) (zs : List Int) (e : TypeId) : NewRow e w.heap.size (w.alloc (.cells (zs.map (Value.int .i64)).toArray e)) (some ⟨w.heap.size, 0, .none⟩) zs :=
  .inr ⟨_, _, rfl, Nat.le_refl _, heap_alloc_new w _, map_at zs⟩

/-! ### Rates and orders -/
def edgesN (rate : Int) : Nat := if rate = 8000 then 14 else if rate = 16000 then 18 else if rate = 24000 then 20 else 0

def rateB (rate : Int) : Bool := decide (0 < edgesN rate)

theorem rate_cases (rate : Int) : rate = 8000 ∨ rate = 16000 ∨ rate = 24000 ∨ (¬ rate = 8000 ∧ ¬ rate = 16000 ∧ ¬ rate = 24000) := by omega

theorem rateB_other {rate : Int} (h : ¬ rate = 8000 ∧ ¬ rate = 16000 ∧ ¬ rate = 24000) : rateB rate = false := by
  unfold rateB edgesN
  rw [if_neg h.1, if_neg h.2.1, if_neg h.2.2]
  rfl

def orderI (rate : Int) : Int := if rate = 8000 then 10 else if rate = 16000 then 16 else 0

def wideI (ms : Int) : Int := if ms = 10 then 4 else if ms = 20 then 8 else 0

def spreadI (order : Int) : Int := if order = 10 then 24 else if order = 16 then 14 else 0

/-! ### Tables of probabilities -/
def icdfT : Nat → List Int
  | 0 => [192, 96, 0]
  | 1 => [224, 192, 160, 128, 96, 64, 32, 0]
  | 2 => [252, 247, 240, 230, 214, 190, 150, 106, 66, 42, 26, 16, 10, 6, 4, 2, 0]
  | 3 => [240, 224, 208, 192, 176, 160, 144, 128, 112, 96, 80, 64, 48, 32, 16, 0]
  | 4 => [253, 244, 222, 170, 86, 34, 12, 3, 0]
  | 5 => [218, 180, 148, 122, 100, 82, 67, 54, 43, 34, 26, 19, 14, 10, 6, 3, 0]
  | 6 => [205, 163, 128, 97, 70, 44, 20, 0]
  | 7 => [231, 155, 38, 0]
  | 8 => [192, 128, 64, 0]
  | _ => []
def icdfL (k : Int) : List Int := if k < 0 then [] else icdfT k.toNat

theorem icdfT_len : ∀ k : Nat, (icdfT k).length ≤ 17
  | 0 | 1 | 2 | 3 | 4 | 5 | 6 | 7 | 8 => by decide
  | _ + 9 => Nat.zero_le _

theorem icdfL_len (k : Int) : (icdfL k).length ≤ 17 := by
  unfold icdfL
  split
  · exact Nat.zero_le _
  · exact icdfT_len _

theorem icdfT_far : ∀ k : Nat, icdfT (k + 9) = [] := fun _ => rfl

theorem icdfL_far {k : Int} (h : k < 0 ∨ 8 < k) : icdfL k = [] := by
  unfold icdfL
  split
  · rfl
  · obtain ⟨n, hn⟩ : ∃ n, k.toNat = n + 9 := ⟨k.toNat - 9, by omega⟩
    rw [hn]; exact icdfT_far n

end Go.Proofs.Ytklpicfeajmadaa
