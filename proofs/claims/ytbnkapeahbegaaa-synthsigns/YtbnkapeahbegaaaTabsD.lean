/- Two small walks of lists: are two the same; may a table of probabilities be? -/
import Derived.Test.YtbnkapeahbegaaaTabsB
namespace Go.Proofs.Ytbnkapeahbegaaa
open Go.RowKit

theorem same_any (zs : List Int) (n : Nat) (a1 a2 : Option Addr) (c1 c2 B1 B2 : Nat) (e1 e2 : TypeId) (w : World) (h1 : NewRow e1 B1 w a1 zs) (h2 : NewRow e2 B2 w a2 zs) (hl : zs.length = n) (hn : n ≤ 1000000) :
    Calls Try.prog 17 #[.slice a1 n c1, .slice a2 n c2] w fun e w' => e = .returned (.bool true) ∧ ∃ k, w' = w.drewN k := by
  have H1 : Hid (0 < n → ∃ b, a1 = some ⟨b, 0, none⟩ ∧ ∀ i, i < n → w.cell? ⟨b, i, none⟩ = some (.int .i64 (zs[i]?.getD 0))) := fun h => by
    obtain ⟨b, ha, _, _, hc⟩ := h1.cells (by omega); exact ⟨b, ha, fun i hi => hc i (by omega)⟩
  have H2 : Hid (0 < n → ∃ b, a2 = some ⟨b, 0, none⟩ ∧ ∀ i, i < n → w.cell? ⟨b, i, none⟩ = some (.int .i64 (zs[i]?.getD 0))) := fun h => by
    obtain ⟨b, ha, _, _, hc⟩ := h2.cells (by omega); exact ⟨b, ha, fun i hi => hc i (by omega)⟩
  clear h1 h2 hl
  go_enter Try.func17, Try.ntmps17
  go_wp2
  go_loopw [5] (fun i W => (∃ d, W = w.drewN d) ∧ ∃ k : Nat, k ≤ n ∧ i = .int .i64 k) (fun i _ => n - (intOf i).toNat)
  case atStart => exact ⟨⟨0, rfl⟩, 0, Nat.zero_le _, rfl⟩
  case round =>
    obtain ⟨⟨d, rfl⟩, k, hk, rfl⟩ := hrel
    by_cases hlt : k < n
    · obtain ⟨b1, rfl, g1⟩ := H1.out (by omega)
      obtain ⟨b2, rfl, g2⟩ := H2.out (by omega)
      have hc1 := g1 k hlt
      have hc2 := g2 k hlt
      clear g1 g2
      generalize zs[k]?.getD 0 = x at hc1 hc2
      go_wp2
      go_quiet (fail)
      all_goals
        go_wp2
        go_roundw
        case rel => exact ⟨⟨_, rfl⟩, k + 1, by omega, by go_num⟩
        case measure => simp [intOf]; omega
    · go_wp2
      go_ret
      exact ⟨rfl, d, rfl⟩

/-! ### May a table be? -/
/-- Does each lie below the one ahead? -/
def falls : Int → List Int → Bool
  | _, [] => true
  | p, x :: l => if p ≤ x then false else falls x l

def goodB (zs : List Int) : Bool := decide (1 ≤ zs.length) && (decide (zs.length ≤ 256) && (decide (zs[zs.length - 1]?.getD 0 = 0) && falls 256 zs))

/-- What is ahead of the place k. -/
def aheadOf (zs : List Int) (k : Nat) : Int := if k = 0 then 256 else zs[k - 1]?.getD 0

theorem falls_drop (p : Int) (zs : List Int) (k : Nat) (h : k < zs.length) :
    falls p (zs.drop k) = if p ≤ zs[k]?.getD 0 then false else falls (zs[k]?.getD 0) (zs.drop (k + 1)) := by
  rw [List.drop_eq_getElem_cons h, List.getElem?_eq_getElem h]; rfl

theorem falls_end (p : Int) (zs : List Int) (k : Nat) (h : zs.length ≤ k) : falls p (zs.drop k) = true := by
  rw [List.drop_eq_nil_of_le h]; rfl

end Go.Proofs.Ytbnkapeahbegaaa
