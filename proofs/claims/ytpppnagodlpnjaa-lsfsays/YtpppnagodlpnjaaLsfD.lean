/- Sums of squares, lists compared, may an index be? -/
import Derived.Test.YtpppnagodlpnjaaLsfC
namespace Go.Proofs.Ytpppnagodlpnjaa
open Go.RowKit

/-- A list's numbers, one by one. -/
def atN (zs : List Int) (k : Nat) : Int := zs[k]?.getD 0

theorem sqN_succ (a b : Nat → Int) (k : Nat) : sqN a b (k + 1) = sqN a b k + (a k - b k) * (a k - b k) := rfl
theorem sqN_turn (a b : Nat → Int) : ∀ n, sqN a b n = sqN b a n
  | 0 => rfl
  | n + 1 => by
    rw [sqN_succ, sqN_succ, sqN_turn a b n, ← Int.neg_mul_neg (a n - b n) (a n - b n), Int.neg_sub]
theorem sqN_congr {a b a' b' : Nat → Int} : ∀ n, (∀ k, k < n → a k = a' k ∧ b k = b' k) → sqN a b n = sqN a' b' n
  | 0, _ => rfl
  | n + 1, h => by rw [sqN_succ, sqN_succ, sqN_congr n (fun k hk => h k (by omega)), (h n (by omega)).1, (h n (by omega)).2]

set_option maxHeartbeats 1000000 in
theorem distance_any (a1 a2 : Option Addr) (n c1 c2 : Nat) (xs ys : List Int) (w : World) (h1 : Zs w a1 n xs) (h2 : Zs w a2 n ys) (hn : n ≤ 1000) (hx : ∀ x ∈ xs, 0 ≤ x ∧ x ≤ 32768) (hy : ∀ y ∈ ys, 0 ≤ y ∧ y ≤ 32768) :
    Calls Try.prog 35 #[.slice a1 n c1, .slice a2 n c2] w fun e w' => e = .returned (.int .i64 (sqN (atN xs) (atN ys) n)) ∧ ∃ k, w' = w.drewN k := by
  have l1 := h1.len
  have l2 := h2.len
  have H1 := h1.at_
  have H2 := h2.at_
  have HX : Hid (∀ k, k < n → 0 ≤ atN xs k ∧ atN xs k ≤ 32768) := fun k hk => hx _ (by unfold atN; rw [List.getElem?_eq_getElem (by omega)]; exact List.getElem_mem _)
  have HY : Hid (∀ k, k < n → 0 ≤ atN ys k ∧ atN ys k ≤ 32768) := fun k hk => hy _ (by unfold atN; rw [List.getElem?_eq_getElem (by omega)]; exact List.getElem_mem _)
  replace H1 : Hid (0 < n → ∃ b off, a1 = some ⟨b, off, none⟩ ∧ ∀ i, i < n → w.cell? ⟨b, off + i, none⟩ = some (.int .i64 (atN xs i))) := fun h => by obtain ⟨b, off, e, _, hc⟩ := H1 h; exact ⟨b, off, e, hc⟩
  replace H2 : Hid (0 < n → ∃ b off, a2 = some ⟨b, off, none⟩ ∧ ∀ i, i < n → w.cell? ⟨b, off + i, none⟩ = some (.int .i64 (atN ys i))) := fun h => by obtain ⟨b, off, e, _, hc⟩ := H2 h; exact ⟨b, off, e, hc⟩
  clear h1 h2 hx hy l1 l2
  generalize atN xs = f at *
  generalize atN ys = g at *
  go_enter Try.func35, Try.ntmps35
  go_wp2
  go_loopw [5, 6, 7, 10] (fun s _ _ i W => (∃ d, W = w.drewN d) ∧ ∃ k : Nat, ∃ q : Int, k ≤ n ∧ i = .int .i64 k ∧ s = .int .i64 q ∧ Hid (q = sqN f g k)) (fun _ _ _ i _ => n - (intOf i).toNat)
  case atStart => exact ⟨⟨0, rfl⟩, 0, 0, Nat.zero_le _, rfl, rfl, rfl⟩
  case round =>
    obtain ⟨⟨d, rfl⟩, k, q, hk, rfl, rfl, HQ⟩ := hrel
    by_cases hlt : k < n
    · obtain ⟨b1, o1, rfl, g1⟩ := H1.out (by omega)
      obtain ⟨b2, o2, rfl, g2⟩ := H2.out (by omega)
      have hc1 := g1 k hlt
      have hc2 := g2 k hlt
      have hq1 := sqN_nonneg f g k
      have hq2 := sqN_le (a := f) (b := g) k (fun j hj => by have := HX.out j (by omega); have := HY.out j (by omega); omega)
      have hfk := HX.out k hlt
      have hgk := HY.out k hlt
      have HS : Hid (sqN f g (k + 1) = sqN f g k + (f k - g k) * (f k - g k)) := rfl
      rw [← HQ.out] at hq1 hq2
      have hd1 := sq_nonneg (f k - g k)
      have hd2 := sq_le (x := f k - g k) (by omega) (by omega)
      generalize f k = x at *
      generalize g k = y at *
      have hp : Hid (q + (x - y) * (x - y) = sqN f g (k + 1)) := by show _ = _; rw [HS.out, HQ.out]
      clear g1 g2
      go_wp2
      go_quiet (fail)
      all_goals
        go_wp2
        go_roundw
        case rel => exact ⟨⟨_, rfl⟩, k + 1, _, by omega, by go_num, rfl, hp.out⟩
        case measure => simp [intOf]; omega
    · have hm : k = n := by omega
      subst hm
      go_wp2
      go_ret
      exact ⟨ret_int HQ.out, d, rfl⟩

theorem zsame_any (a1 a2 : Option Addr) (n c1 c2 : Nat) (zs : List Int) (w : World) (h1 : Zs w a1 n zs) (h2 : Zs w a2 n zs) (_hn : n ≤ 1000) :
    Calls Try.prog 16 #[.slice a1 n c1, .slice a2 n c2] w fun e w' => e = .returned (.bool true) ∧ ∃ k, w' = w.drewN k := by
  have H1 : Hid (0 < n → ∃ b off, a1 = some ⟨b, off, none⟩ ∧ b < w.heap.size ∧ ∀ i, i < n → w.cell? ⟨b, off + i, none⟩ = some (.int .i64 (zs[i]?.getD 0))) := h1.at_
  have H2 : Hid (0 < n → ∃ b off, a2 = some ⟨b, off, none⟩ ∧ b < w.heap.size ∧ ∀ i, i < n → w.cell? ⟨b, off + i, none⟩ = some (.int .i64 (zs[i]?.getD 0))) := h2.at_
  clear h1 h2
  go_enter Try.func16, Try.ntmps16
  go_wp2
  go_loopw [5] (fun i W => (∃ d, W = w.drewN d) ∧ ∃ k : Nat, k ≤ n ∧ i = .int .i64 k) (fun i _ => n - (intOf i).toNat)
  case atStart => exact ⟨⟨0, rfl⟩, 0, Nat.zero_le _, rfl⟩
  case round =>
    obtain ⟨⟨d, rfl⟩, k, hk, rfl⟩ := hrel
    by_cases hlt : k < n
    · obtain ⟨b1, o1, rfl, _, g1⟩ := H1.out (by omega)
      obtain ⟨b2, o2, rfl, _, g2⟩ := H2.out (by omega)
      have hc1 := g1 k hlt
      have hc2 := g2 k hlt
      clear g1 g2
      generalize zs[k]?.getD 0 = x at hc1 hc2
      go_wp2
      go_quiet (fail)
      all_goals
        go_wp2
        go_roundw
        case rel => exact ⟨⟨_, rfl⟩, k + 1, by omega, by go_num⟩
        case measure => simp [intOf]; omega
    · go_wp2
      go_ret
      exact ⟨rfl, d, rfl⟩

/-! ### May an index be? -/
def fewB (zs : List Int) : Bool := zs.all fun x => decide (-4 ≤ x ∧ x ≤ 4)
theorem fewB_iff (zs : List Int) : fewB zs = true ↔ ∀ x ∈ zs, -4 ≤ x ∧ x ≤ 4 := by
  unfold fewB
  rw [List.all_eq_true]
  exact ⟨fun h x hx => of_decide_eq_true (h x hx), fun h x hx => decide_eq_true (h x hx)⟩
theorem fewB_drop {zs : List Int} {k : Nat} (h : k < zs.length) : fewB (zs.drop k) = (decide (-4 ≤ zs[k]?.getD 0 ∧ zs[k]?.getD 0 ≤ 4) && fewB (zs.drop (k + 1))) := by
  rw [List.drop_eq_getElem_cons h, List.getElem?_eq_getElem h]; rfl
theorem fewB_end {zs : List Int} {k : Nat} (h : zs.length ≤ k) : fewB (zs.drop k) = true := by rw [List.drop_eq_nil_of_le h]; rfl

theorem igood_no (order one : Int) (a : Option Addr) (n cap : Nat) (w : World) (_hn : n ≤ maxLen) (h : ¬ ((order = 10 ∨ order = 16) ∧ 0 ≤ one ∧ one ≤ 15 ∧ (n : Int) = order)) :
    Calls Try.prog 13 #[.int .i64 order, .agg #[.int .i64 one, .slice a n cap]] w fun e w' => e = .returned (.bool false) ∧ Below w.heap.size w w' := by
  unfold maxLen at _hn
  by_cases h1 : order = 10 ∨ order = 16
  · have hu : unitI order = 400 ∨ unitI order = 250 := by
      rcases h1 with rfl | rfl
      · exact .inl rfl
      · exact .inr rfl
    generalize hU : unitI order = U at hu
    have HU : Hid (unitI order = U) := hU
    clear hU
    have hu0 : (U == 0) = false := beq_eq_false_iff_ne.2 (by omega)
    have h4 : one < 0 ∨ 15 < one ∨ (0 ≤ one ∧ one ≤ 15 ∧ ((n : Int) != order) = true) := by
      rw [bne_iff_ne]
      omega
    clear h h1 hu
    rcases h4 with h | h | ⟨h, h2, h3⟩
    all_goals
      go_enter Try.func13, Try.ntmps13
      go_wp2_with (go_at_call 24; refine (unit_any _ _).mono ?_; rw [HU.out]; rintro e w' ⟨rfl, rfl⟩)
      go_ret
      exact ⟨rfl, (Below.refl _ _).alloc (Nat.le_refl _) _⟩
  · have HU : Hid (unitI order = 0) := by
      show _ = _
      unfold unitI
      rw [if_neg (by omega), if_neg (by omega)]
    clear h h1
    go_enter Try.func13, Try.ntmps13
    go_wp2_with (go_at_call 24; refine (unit_any _ _).mono ?_; rw [HU.out]; rintro e w' ⟨rfl, rfl⟩)
    go_ret
    exact ⟨rfl, (Below.refl _ _).alloc (Nat.le_refl _) _⟩

theorem igood_loop (one : Int) (a : Option Addr) (n cap : Nat) (zs : List Int) (w : World) (hz : Zs w a n zs) (h1 : n = 10 ∨ n = 16) (h0 : 0 ≤ one) (h2 : one ≤ 15) :
    Calls Try.prog 13 #[.int .i64 (n : Int), .agg #[.int .i64 one, .slice a n cap]] w fun e w' => e = .returned (.bool (fewB zs)) ∧ Below w.heap.size w w' := by
  have hl := hz.len
  have hn : 10 ≤ n ∧ n ≤ 16 := by omega
  have hu : unitI n = 400 ∨ unitI n = 250 := by
    rcases h1 with rfl | rfl
    · exact .inl rfl
    · exact .inr rfl
  generalize hU : unitI n = U at hu
  have HU : Hid (unitI n = U) := hU
  clear hU
  have hu0 : (U == 0) = false := beq_eq_false_iff_ne.2 (by omega)
  clear h1 hu
  obtain ⟨b, off, rfl, hb, hc⟩ := hz.at_ (by omega)
  have HC : Hid (∀ (o : Obj) (i : Nat), i < n → (w.alloc o).cell? ⟨b, off + i, none⟩ = some (.int .i64 (zs[i]?.getD 0))) := fun o i hi => (((Below.refl w.heap.size w).alloc (Nat.le_refl _) o).cell (p := ⟨b, off + i, none⟩) hb).trans (hc i hi)
  clear hz hc
  have HG : Hid (∃ G, fewB zs = G) := ⟨_, rfl⟩
  obtain ⟨G, hG⟩ := HG.out
  rw [hG]
  have HG2 : Hid (fewB zs = G) := hG
  clear HG hG
  go_enter Try.func13, Try.ntmps13
  go_wp2_with (go_at_call 24; refine (unit_any _ _).mono ?_; rw [HU.out]; rintro e w' ⟨rfl, rfl⟩)
  go_loop [6, 30] (fun _ i => ∃ k : Nat, k ≤ n ∧ i = .int .i64 k ∧ Hid (G = fewB (zs.drop k))) (fun _ i => n - (intOf i).toNat)
  case atStart => exact ⟨0, Nat.zero_le _, rfl, HG2.out.symm⟩
  case round =>
    obtain ⟨k, hk, rfl, HQ⟩ := hrel
    by_cases hlt : k < n
    · have hck := HC.out (.cells #[.int .i64 one, .slice (some ⟨b, off, none⟩) n cap] 29) k hlt
      have HF : Hid (fewB (zs.drop k) = (decide (-4 ≤ zs[k]?.getD 0 ∧ zs[k]?.getD 0 ≤ 4) && fewB (zs.drop (k + 1)))) := fewB_drop (by omega)
      generalize zs[k]?.getD 0 = x at hck HF
      by_cases hx : x < -4
      · have HR : Hid (G = false) := by show _ = _; rw [HQ.out, HF.out, decide_eq_false (by omega)]; rfl
        clear HF HQ HC
        go_wp2
        all_goals
          go_ret
          exact ⟨by rw [HR.out]; rfl, (Below.refl _ _).alloc (Nat.le_refl _) _⟩
      · by_cases hx2 : 4 < x
        · have HR : Hid (G = false) := by show _ = _; rw [HQ.out, HF.out, decide_eq_false (by omega)]; rfl
          clear HF HQ HC
          go_wp2
          all_goals
            go_ret
            exact ⟨by rw [HR.out]; rfl, (Below.refl _ _).alloc (Nat.le_refl _) _⟩
        · have HR : Hid (G = fewB (zs.drop (k + 1))) := by show _ = _; rw [HQ.out, HF.out, decide_eq_true (by omega)]; rfl
          clear HF HQ HC
          go_wp2
          go_round
          case rel => exact ⟨k + 1, by omega, by go_num, HR.out⟩
          case measure => simp [intOf]; omega
    · have HR : Hid (G = true) := by show _ = _; rw [HQ.out, fewB_end (by omega)]
      go_wp2
      go_ret
      exact ⟨by rw [HR.out]; rfl, (Below.refl _ _).alloc (Nat.le_refl _) _⟩

theorem igood_any (order one : Int) (a : Option Addr) (n cap : Nat) (zs : List Int) (w : World) (hz : Zs w a n zs) (hn : n ≤ maxLen) :
    Calls Try.prog 13 #[.int .i64 order, .agg #[.int .i64 one, .slice a n cap]] w fun e w' => ∃ bb, e = .returned (.bool bb) ∧ (bb = true ↔ GoodX order one zs) ∧ Below w.heap.size w w' := by
  by_cases h : (order = 10 ∨ order = 16) ∧ 0 ≤ one ∧ one ≤ 15 ∧ (n : Int) = order
  · obtain ⟨h1, h2, h3, rfl⟩ := h
    refine (igood_loop one a n cap zs w hz (by omega) h2 h3).mono ?_
    rintro e w' ⟨rfl, hb⟩
    exact ⟨_, rfl, (fewB_iff zs).trans ⟨fun h => ⟨h1, h2, h3, by rw [hz.len], h⟩, fun h => h.2.2.2.2⟩, hb⟩
  · refine (igood_no order one a n cap w hn h).mono ?_
    rintro e w' ⟨rfl, hb⟩
    exact ⟨_, rfl, ⟨fun h => (by cases h), fun hg => absurd ⟨hg.1, hg.2.1, hg.2.2.1, by rw [← hz.len]; exact hg.2.2.2.1⟩ h⟩, hb⟩

end Go.Proofs.Ytpppnagodlpnjaa
