/- Two small walks of lists: are two the same; may a table of probabilities be? -/
import Derived.Test.YtinjkffkkmbioaaTabsB
namespace Go.Proofs.Ytinjkffkkmbioaa
open Go.RowKit

/-! ### May a table be? -/
/-- Does each lie below the one ahead? -/
def falls : Int → List Int → Bool
  | _, [] => true
  | p, x :: l => if p ≤ x then false else falls x l

def goodB (zs : List Int) : Bool := decide (1 ≤ zs.length) && (decide (zs.length ≤ 256) && (decide (zs[zs.length - 1]?.getD 0 = 0) && falls 256 zs))

/-- What is ahead of the place k. -/
def aheadOf (zs : List Int) (k : Nat) : Int := if k = 0 then 256 else zs[k - 1]?.getD 0

theorem falls_drop (p : Int) (zs : List Int) (k : Nat) (h : k < zs.length) :
    falls p (zs.drop k) = if p ≤ zs[k]?.getD 0 then false else falls (zs[k]?.getD 0) (zs.drop (k + 1)) := by
  rw [List.drop_eq_getElem_cons h, List.getElem?_eq_getElem h]; rfl

theorem falls_end (p : Int) (zs : List Int) (k : Nat) (h : zs.length ≤ k) : falls p (zs.drop k) = true := by
  rw [List.drop_eq_nil_of_le h]; rfl

theorem good_any (zs : List Int) (b off n cap : Nat) (w : World) (hl : zs.length = n) (h0 : 1 ≤ n) (hn : n ≤ 9223372036854775807) (hc : ∀ i, i < n → w.cell? ⟨b, off + i, none⟩ = some (.int .i64 (zs[i]?.getD 0))) :
    Calls Try.prog 37 #[.slice (some ⟨b, off, none⟩) n cap] w fun e w' => e = .returned (.bool (goodB zs)) ∧ w' = w := by
  have hcl := hc (n - 1) (by omega)
  have HC : Hid (∀ i, i < n → w.cell? ⟨b, off + i, none⟩ = some (.int .i64 (zs[i]?.getD 0))) := hc
  clear hc
  have eg : goodB zs = (decide (1 ≤ n) && (decide (n ≤ 256) && (decide (zs[n - 1]?.getD 0 = 0) && falls 256 zs))) := by rw [goodB, hl]
  generalize hz : zs[n - 1]?.getD 0 = z at *
  clear hz
  by_cases h1 : n ≤ 256
  · by_cases h2 : z = 0
    · subst h2
      have e2 : goodB zs = falls 256 zs := by rw [eg, decide_eq_true h0, decide_eq_true h1, decide_eq_true rfl]; rfl
      rw [e2]; clear e2 eg
      have HG : Hid (∃ G, falls 256 zs = G) := ⟨_, rfl⟩
      obtain ⟨G, hG⟩ := HG.out
      rw [hG]
      have HG2 : Hid (falls 256 zs = G) := hG
      clear HG hG
      go_enter Try.func37, Try.ntmps37
      go_wp2
      go_loop [3, 5, 25] (fun p _ i => ∃ k : Nat, ∃ q : Int, k ≤ n ∧ i = .int .i64 k ∧ p = .int .i64 q ∧ G = falls q (zs.drop k)) (fun _ _ i => n - (intOf i).toNat)
      case atStart => exact ⟨0, 256, Nat.zero_le _, rfl, rfl, HG2.out.symm⟩
      case round =>
        obtain ⟨k, q, hk, rfl, rfl, hq⟩ := hrel
        have HQ : Hid (G = falls q (zs.drop k)) := hq
        clear hq
        by_cases hlt : k < n
        · have hck := HC.out k hlt
          have HF : Hid (falls q (zs.drop k) = if q ≤ zs[k]?.getD 0 then false else falls (zs[k]?.getD 0) (zs.drop (k + 1))) := falls_drop q zs k (by omega)
          generalize zs[k]?.getD 0 = x at hck HF
          by_cases hx : q ≤ x
          · have HR : Hid (G = false) := by show _ = _; rw [HQ.out, HF.out, if_pos hx]
            go_wp2
            go_ret
            exact ⟨by rw [HR.out]; rfl, rfl⟩
          · have HR : Hid (G = falls x (zs.drop (k + 1))) := by show _ = _; rw [HQ.out, HF.out, if_neg hx]
            go_wp2
            go_round
            case rel => exact ⟨k + 1, x, by omega, by go_num, rfl, HR.out⟩
            case measure => simp [intOf]; omega
        · have HR : Hid (G = true) := by show _ = _; rw [HQ.out, falls_end _ _ _ (by omega)]
          go_wp2
          go_ret
          exact ⟨by rw [HR.out]; rfl, rfl⟩
    · have e2 : goodB zs = false := by rw [eg, decide_eq_false h2]; simp
      rw [e2]; clear e2 eg
      have h2' : (z != 0) = true := by rw [bne_iff_ne]; exact h2
      go_enter Try.func37, Try.ntmps37
      go_wp2
      go_ret
      exact ⟨rfl, rfl⟩
  · have e2 : goodB zs = false := by rw [eg, decide_eq_false h1]; simp
    rw [e2]; clear e2 eg
    go_enter Try.func37, Try.ntmps37
    go_wp2
    go_ret
    exact ⟨rfl, rfl⟩

theorem good_none (a : Option Addr) (cap : Nat) (w : World) :
    Calls Try.prog 37 #[.slice a 0 cap] w fun e w' => e = .returned (.bool false) ∧ w' = w := by
  go_enter Try.func37, Try.ntmps37
  go_wp2
  go_ret
  exact ⟨rfl, rfl⟩

theorem rgood_any (zs : List Int) (b off n cap : Nat) (w : World) (hl : zs.length = n) (h0 : 1 ≤ n) (hn : n ≤ 9223372036854775807) (hc : ∀ i, i < n → w.cell? ⟨b, off + i, none⟩ = some (.int .i64 (zs[i]?.getD 0))) :
    Calls Try.prog 39 #[.slice (some ⟨b, off, none⟩) n cap] w fun e w' => e = .returned (.bool (goodB zs)) ∧ w' = w := by
  have hcl := hc (n - 1) (by omega)
  have HC : Hid (∀ i, i < n → w.cell? ⟨b, off + i, none⟩ = some (.int .i64 (zs[i]?.getD 0))) := hc
  clear hc
  have eg : goodB zs = (decide (1 ≤ n) && (decide (n ≤ 256) && (decide (zs[n - 1]?.getD 0 = 0) && falls 256 zs))) := by rw [goodB, hl]
  generalize hz : zs[n - 1]?.getD 0 = z at *
  clear hz
  by_cases h1 : n ≤ 256
  · by_cases h2 : z = 0
    · subst h2
      have e2 : goodB zs = falls 256 zs := by rw [eg, decide_eq_true h0, decide_eq_true h1, decide_eq_true rfl]; rfl
      rw [e2]; clear e2 eg
      have HG : Hid (∃ G, falls 256 zs = G) := ⟨_, rfl⟩
      obtain ⟨G, hG⟩ := HG.out
      rw [hG]
      have HG2 : Hid (falls 256 zs = G) := hG
      clear HG hG
      go_enter Try.func39, Try.ntmps39
      go_wp2
      go_loop [3, 4] (fun p i => ∃ k : Nat, ∃ q : Int, k ≤ n ∧ i = .int .i64 k ∧ p = .int .i64 q ∧ G = falls q (zs.drop k)) (fun _ i => n - (intOf i).toNat)
      case atStart => exact ⟨0, 256, Nat.zero_le _, rfl, rfl, HG2.out.symm⟩
      case round =>
        obtain ⟨k, q, hk, rfl, rfl, hq⟩ := hrel
        have HQ : Hid (G = falls q (zs.drop k)) := hq
        clear hq
        by_cases hlt : k < n
        · have hck := HC.out k hlt
          have HF : Hid (falls q (zs.drop k) = if q ≤ zs[k]?.getD 0 then false else falls (zs[k]?.getD 0) (zs.drop (k + 1))) := falls_drop q zs k (by omega)
          generalize zs[k]?.getD 0 = x at hck HF
          by_cases hx : q ≤ x
          · have HR : Hid (G = false) := by show _ = _; rw [HQ.out, HF.out, if_pos hx]
            go_wp2
            go_ret
            exact ⟨by rw [HR.out]; rfl, rfl⟩
          · have HR : Hid (G = falls x (zs.drop (k + 1))) := by show _ = _; rw [HQ.out, HF.out, if_neg hx]
            go_wp2
            go_round
            case rel => exact ⟨k + 1, x, by omega, by go_num, rfl, HR.out⟩
            case measure => simp [intOf]; omega
        · have HR : Hid (G = true) := by show _ = _; rw [HQ.out, falls_end _ _ _ (by omega)]
          go_wp2
          go_ret
          exact ⟨by rw [HR.out]; rfl, rfl⟩
    · have e2 : goodB zs = false := by rw [eg, decide_eq_false h2]; simp
      rw [e2]; clear e2 eg
      have h2' : (z != 0) = true := by rw [bne_iff_ne]; exact h2
      go_enter Try.func39, Try.ntmps39
      go_wp2
      go_ret
      exact ⟨rfl, rfl⟩
  · have e2 : goodB zs = false := by rw [eg, decide_eq_false h1]; simp
    rw [e2]; clear e2 eg
    go_enter Try.func39, Try.ntmps39
    go_wp2
    go_ret
    exact ⟨rfl, rfl⟩

theorem rgood_none (a : Option Addr) (cap : Nat) (w : World) :
    Calls Try.prog 39 #[.slice a 0 cap] w fun e w' => e = .returned (.bool false) ∧ w' = w := by
  go_enter Try.func39, Try.ntmps39
  go_wp2
  go_ret
  exact ⟨rfl, rfl⟩

end Go.Proofs.Ytinjkffkkmbioaa
