/- Sums of squares, lists compared, may an index be? -/
import Derived.Test.YtjaccokmficfdaaLsfC
namespace Go.Proofs.Ytjaccokmficfdaa
open Go.RowKit

/-- A list's numbers, one by one. -/
def atN (zs : List Int) (k : Nat) : Int := zs[k]?.getD 0

theorem sqN_succ (a b : Nat → Int) (k : Nat) : sqN a b (k + 1) = sqN a b k + (a k - b k) * (a k - b k) := rfl
theorem sqN_turn (a b : Nat → Int) : ∀ n, sqN a b n = sqN b a n
  | 0 => rfl
  | n + 1 => by
    rw [sqN_succ, sqN_succ, sqN_turn a b n, ← Int.neg_mul_neg (a n - b n) (a n - b n), Int.neg_sub]
theorem sqN_congr {a b a' b' : Nat → Int} : ∀ n, (∀ k, k < n → a k = a' k ∧ b k = b' k) → sqN a b n = sqN a' b' n
  | 0, _ => rfl
  | n + 1, h => by rw [sqN_succ, sqN_succ, sqN_congr n (fun k hk => h k (by omega)), (h n (by omega)).1, (h n (by omega)).2]

/-! ### May an index be? -/
def lfewB (zs : List Int) : Bool := zs.all fun x => decide (-4 ≤ x ∧ x ≤ 4)
theorem fewB_iff (zs : List Int) : lfewB zs = true ↔ ∀ x ∈ zs, -4 ≤ x ∧ x ≤ 4 := by
  unfold lfewB
  rw [List.all_eq_true]
  exact ⟨fun h x hx => of_decide_eq_true (h x hx), fun h x hx => decide_eq_true (h x hx)⟩
theorem fewB_drop {zs : List Int} {k : Nat} (h : k < zs.length) : lfewB (zs.drop k) = (decide (-4 ≤ zs[k]?.getD 0 ∧ zs[k]?.getD 0 ≤ 4) && lfewB (zs.drop (k + 1))) := by
  rw [List.drop_eq_getElem_cons h, List.getElem?_eq_getElem h]; rfl
theorem fewB_end {zs : List Int} {k : Nat} (h : zs.length ≤ k) : lfewB (zs.drop k) = true := by rw [List.drop_eq_nil_of_le h]; rfl

theorem igood_no (order one : Int) (a : Option Addr) (n cap : Nat) (w : World) (_hn : n ≤ maxLen) (h : ¬ ((order = 10 ∨ order = 16) ∧ 0 ≤ one ∧ one ≤ 15 ∧ (n : Int) = order)) :
    Calls Try.prog 57 #[.int .i64 order, .agg #[.int .i64 one, .slice a n cap]] w fun e w' => e = .returned (.bool false) ∧ Below w.heap.size w w' := by
  unfold maxLen at _hn
  by_cases h1 : order = 10 ∨ order = 16
  · have hu : unitI order = 400 ∨ unitI order = 250 := by
      rcases h1 with rfl | rfl
      · exact .inl rfl
      · exact .inr rfl
    generalize hU : unitI order = U at hu
    have HU : Hid (unitI order = U) := hU
    clear hU
    have hu0 : (U == 0) = false := beq_eq_false_iff_ne.2 (by omega)
    have h4 : one < 0 ∨ 15 < one ∨ (0 ≤ one ∧ one ≤ 15 ∧ ((n : Int) != order) = true) := by
      rw [bne_iff_ne]
      omega
    clear h h1 hu
    rcases h4 with h | h | ⟨h, h2, h3⟩
    all_goals
      go_enter Try.func57, Try.ntmps57
      go_wp2_with (go_at_call 59; refine (unit_any _ _).mono ?_; rw [HU.out]; rintro e w' ⟨rfl, rfl⟩)
      go_ret
      exact ⟨rfl, (Below.refl _ _).alloc (Nat.le_refl _) _⟩
  · have HU : Hid (unitI order = 0) := by
      show _ = _
      unfold unitI
      rw [if_neg (by omega), if_neg (by omega)]
    clear h h1
    go_enter Try.func57, Try.ntmps57
    go_wp2_with (go_at_call 59; refine (unit_any _ _).mono ?_; rw [HU.out]; rintro e w' ⟨rfl, rfl⟩)
    go_ret
    exact ⟨rfl, (Below.refl _ _).alloc (Nat.le_refl _) _⟩

theorem igood_loop (one : Int) (a : Option Addr) (n cap : Nat) (zs : List Int) (w : World) (hz : Zs w a n zs) (h1 : n = 10 ∨ n = 16) (h0 : 0 ≤ one) (h2 : one ≤ 15) :
    Calls Try.prog 57 #[.int .i64 (n : Int), .agg #[.int .i64 one, .slice a n cap]] w fun e w' => e = .returned (.bool (lfewB zs)) ∧ Below w.heap.size w w' := by
  have hl := hz.len
  have hn : 10 ≤ n ∧ n ≤ 16 := by omega
  have hu : unitI n = 400 ∨ unitI n = 250 := by
    rcases h1 with rfl | rfl
    · exact .inl rfl
    · exact .inr rfl
  generalize hU : unitI n = U at hu
  have HU : Hid (unitI n = U) := hU
  clear hU
  have hu0 : (U == 0) = false := beq_eq_false_iff_ne.2 (by omega)
  clear h1 hu
  obtain ⟨b, off, rfl, hb, hc⟩ := hz.at_ (by omega)
  have HC : Hid (∀ (o : Obj) (i : Nat), i < n → (w.alloc o).cell? ⟨b, off + i, none⟩ = some (.int .i64 (zs[i]?.getD 0))) := fun o i hi => (((Below.refl w.heap.size w).alloc (Nat.le_refl _) o).cell (p := ⟨b, off + i, none⟩) hb).trans (hc i hi)
  clear hz hc
  have HG : Hid (∃ G, lfewB zs = G) := ⟨_, rfl⟩
  obtain ⟨G, hG⟩ := HG.out
  rw [hG]
  have HG2 : Hid (lfewB zs = G) := hG
  clear HG hG
  go_enter Try.func57, Try.ntmps57
  go_wp2_with (go_at_call 59; refine (unit_any _ _).mono ?_; rw [HU.out]; rintro e w' ⟨rfl, rfl⟩)
  go_loop [6, 30] (fun _ i => ∃ k : Nat, k ≤ n ∧ i = .int .i64 k ∧ Hid (G = lfewB (zs.drop k))) (fun _ i => n - (intOf i).toNat)
  case atStart => exact ⟨0, Nat.zero_le _, rfl, HG2.out.symm⟩
  case round =>
    obtain ⟨k, hk, rfl, HQ⟩ := hrel
    by_cases hlt : k < n
    · have hck := HC.out (.cells #[.int .i64 one, .slice (some ⟨b, off, none⟩) n cap] 56) k hlt
      have HF : Hid (lfewB (zs.drop k) = (decide (-4 ≤ zs[k]?.getD 0 ∧ zs[k]?.getD 0 ≤ 4) && lfewB (zs.drop (k + 1)))) := fewB_drop (by omega)
      generalize zs[k]?.getD 0 = x at hck HF
      by_cases hx : x < -4
      · have HR : Hid (G = false) := by show _ = _; rw [HQ.out, HF.out, decide_eq_false (by omega)]; rfl
        clear HF HQ HC
        go_wp2
        all_goals
          go_ret
          exact ⟨by rw [HR.out]; rfl, (Below.refl _ _).alloc (Nat.le_refl _) _⟩
      · by_cases hx2 : 4 < x
        · have HR : Hid (G = false) := by show _ = _; rw [HQ.out, HF.out, decide_eq_false (by omega)]; rfl
          clear HF HQ HC
          go_wp2
          all_goals
            go_ret
            exact ⟨by rw [HR.out]; rfl, (Below.refl _ _).alloc (Nat.le_refl _) _⟩
        · have HR : Hid (G = lfewB (zs.drop (k + 1))) := by show _ = _; rw [HQ.out, HF.out, decide_eq_true (by omega)]; rfl
          clear HF HQ HC
          go_wp2
          go_round
          case rel => exact ⟨k + 1, by omega, by go_num, HR.out⟩
          case measure => simp [intOf]; omega
    · have HR : Hid (G = true) := by show _ = _; rw [HQ.out, fewB_end (by omega)]
      go_wp2
      go_ret
      exact ⟨by rw [HR.out]; rfl, (Below.refl _ _).alloc (Nat.le_refl _) _⟩

theorem igood_any (order one : Int) (a : Option Addr) (n cap : Nat) (zs : List Int) (w : World) (hz : Zs w a n zs) (hn : n ≤ maxLen) :
    Calls Try.prog 57 #[.int .i64 order, .agg #[.int .i64 one, .slice a n cap]] w fun e w' => ∃ bb, e = .returned (.bool bb) ∧ (bb = true ↔ GoodX order one zs) ∧ Below w.heap.size w w' := by
  by_cases h : (order = 10 ∨ order = 16) ∧ 0 ≤ one ∧ one ≤ 15 ∧ (n : Int) = order
  · obtain ⟨h1, h2, h3, rfl⟩ := h
    refine (igood_loop one a n cap zs w hz (by omega) h2 h3).mono ?_
    rintro e w' ⟨rfl, hb⟩
    exact ⟨_, rfl, (fewB_iff zs).trans ⟨fun h => ⟨h1, h2, h3, by rw [hz.len], h⟩, fun h => h.2.2.2.2⟩, hb⟩
  · refine (igood_no order one a n cap w hn h).mono ?_
    rintro e w' ⟨rfl, hb⟩
    exact ⟨_, rfl, ⟨fun h => (by cases h), fun hg => absurd ⟨hg.1, hg.2.1, hg.2.2.1, by rw [← hz.len]; exact hg.2.2.2.1⟩ h⟩, hb⟩

end Go.Proofs.Ytjaccokmficfdaa
