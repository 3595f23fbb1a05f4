/- The law of what lies between answers true, of any two lists and any way. -/
import Derived.Test.YtpppnagodlpnjaaLsfU
namespace Go.Proofs.Ytpppnagodlpnjaa
open Go.RowKit

theorem between_none (a1 a2 : Option Addr) (n1 n2 c1 c2 : Nat) (v : Int) (w : World) (_h1 : n1 ≤ 9223372036854775807) (_h2 : n2 ≤ 9223372036854775807) (h : ¬ (n1 = n2 ∧ n1 ≤ 64 ∧ 0 ≤ v ∧ v ≤ 4)) :
    Calls Try.prog 7 #[.slice a1 n1 c1, .slice a2 n2 c2, .int .i64 v] w fun e w' => e = .returned (.bool true) ∧ Below w.heap.size w w' := by
  have h4 : ((n1 : Int) != (n2 : Int)) = true ∨ (n1 = n2 ∧ 64 < n1) ∨ (n1 = n2 ∧ n1 ≤ 64 ∧ v < 0) ∨ (n1 = n2 ∧ n1 ≤ 64 ∧ 0 ≤ v ∧ 4 < v) := by
    rw [bne_iff_ne]
    omega
  clear h
  rcases h4 with h | ⟨rfl, h⟩ | ⟨rfl, h, h2⟩ | ⟨rfl, h, h2, h3⟩
  all_goals
    go_enter Try.func7, Try.ntmps7
    go_wp2_with (go_at_call 9; refine (awake_any _).mono ?_; rintro e w1 ⟨rfl, hb1⟩)
    go_ret
    exact ⟨rfl, hb1⟩

theorem betweenL_none {xs ys : List Int} {n : Nat} (hx : xs.length = n) (hX : ∀ k, k < n → 0 ≤ atN xs k ∧ atN xs k ≤ 32768) (hY : ∀ k, k < n → 0 ≤ atN ys k ∧ atN ys k ≤ 32768) : betweenL xs ys 0 n = xs := by
  apply List.ext_getElem
  · rw [betweenL_len, hx]
  · intro i h1 h2
    have hi : i < n := by omega
    have h3 := (betweenZ_at (hX i hi) (hY i hi)).1
    have h4 : (betweenL xs ys 0 n)[i]?.getD 0 = xs[i]?.getD 0 := (map_range_at _ _ _ hi).trans h3
    rw [List.getElem?_eq_getElem h1, List.getElem?_eq_getElem h2] at h4
    exact h4
theorem betweenL_all {xs ys : List Int} {n : Nat} (hy : ys.length = n) (hX : ∀ k, k < n → 0 ≤ atN xs k ∧ atN xs k ≤ 32768) (hY : ∀ k, k < n → 0 ≤ atN ys k ∧ atN ys k ≤ 32768) : betweenL xs ys 4 n = ys := by
  apply List.ext_getElem
  · rw [betweenL_len, hy]
  · intro i h1 h2
    have hi : i < n := by omega
    have h3 := (betweenZ_at (hX i hi) (hY i hi)).2
    have h4 : (betweenL xs ys 4 n)[i]?.getD 0 = ys[i]?.getD 0 := (map_range_at _ _ _ hi).trans h3
    rw [List.getElem?_eq_getElem h1, List.getElem?_eq_getElem h2] at h4
    exact h4

set_option maxRecDepth 100000 in
set_option maxHeartbeats 4000000 in
theorem between_some (a1 a2 : Option Addr) (n c1 c2 : Nat) (xs ys : List Int) (v : Int) (w : World) (h1 : Zs w a1 n xs) (h2 : Zs w a2 n ys) (hn : n ≤ 64) (h0 : 0 ≤ v) (h4 : v ≤ 4) :
    Calls Try.prog 7 #[.slice a1 n c1, .slice a2 n c2, .int .i64 v] w fun e w' => e = .returned (.bool true) ∧ Below w.heap.size w w' := by
  have HX : Hid (∀ W, Below w.heap.size w W → Zs W a1 n xs) := fun W hb => h1.keep hb
  have HY : Hid (∀ W, Below w.heap.size w W → Zs W a2 n ys) := fun W hb => h2.keep hb
  have HB : Hid (∀ u : Int, 0 ≤ u → u ≤ 4 → ∀ W, Below w.heap.size w W → Calls Try.prog 11 #[.slice a1 n c1, .slice a2 n c2, .int .i64 u] W fun e w' => ∃ a', e = .returned (.tuple #[.slice a' n n, .int .i64 0]) ∧ Zs w' a' n (betweenL xs ys u n) ∧ Below W.heap.size W w') := fun u hu0 hu4 W hb => by
    refine (between_good a1 a2 n c1 c2 xs ys u W (h1.keep hb) (h2.keep hb) hn hu0 hu4).mono ?_
    rintro e w' ⟨a', rfl, hn, hb⟩
    exact ⟨a', rfl, Zs.of_new hn (betweenL_len _ _ _ _), hb⟩
  have hlx := h1.len
  have hly := h2.len
  have HN : Hid ((∀ k, k < n → (0 ≤ atN xs k ∧ atN xs k ≤ 32768) ∧ (0 ≤ atN ys k ∧ atN ys k ≤ 32768)) → betweenL xs ys 0 n = xs ∧ betweenL xs ys 4 n = ys ∧ ∀ k, k < n → (betweenL xs ys v n)[k]?.getD 0 = betweenZ (atN xs k) (atN ys k) v) := fun h => ⟨betweenL_none hlx (fun k hk => (h k hk).1) fun k hk => (h k hk).2, betweenL_all hly (fun k hk => (h k hk).1) fun k hk => (h k hk).2, fun k hk => betweenL_at hk⟩
  clear h1 h2 hlx hly
  have HB0 : Hid (∀ W, Below w.heap.size w W → Calls Try.prog 11 #[.slice a1 n c1, .slice a2 n c2, .int .i64 0] W fun e w' => ∃ a', e = .returned (.tuple #[.slice a' n n, .int .i64 0]) ∧ Zs w' a' n (betweenL xs ys 0 n) ∧ Below W.heap.size W w') := HB.out 0 (by decide) (by decide)
  have HB4 : Hid (∀ W, Below w.heap.size w W → Calls Try.prog 11 #[.slice a1 n c1, .slice a2 n c2, .int .i64 4] W fun e w' => ∃ a', e = .returned (.tuple #[.slice a' n n, .int .i64 0]) ∧ Zs w' a' n (betweenL xs ys 4 n) ∧ Below W.heap.size W w') := HB.out 4 (by decide) (by decide)
  have HBv : Hid (∀ W, Below w.heap.size w W → Calls Try.prog 11 #[.slice a1 n c1, .slice a2 n c2, .int .i64 v] W fun e w' => ∃ a', e = .returned (.tuple #[.slice a' n n, .int .i64 0]) ∧ Zs w' a' n (betweenL xs ys v n) ∧ Below W.heap.size W w') := HB.out v h0 h4
  clear HB
  generalize betweenL xs ys v n = L at *
  generalize betweenL xs ys 0 n = L0 at *
  generalize betweenL xs ys 4 n = L4 at *
  go_enter Try.func7, Try.ntmps7
  go_wp2_with (go_at_call 9; refine (awake_any _).mono ?_; rintro e w1 ⟨rfl, hb1⟩)
  go_loop [7] (fun i => ∃ m : Nat, m ≤ n ∧ i = .int .i64 m ∧ Hid (∀ k, k < m → (0 ≤ atN xs k ∧ atN xs k ≤ 32768) ∧ (0 ≤ atN ys k ∧ atN ys k ≤ 32768))) (fun i => n - (intOf i).toNat)
  case atStart => exact ⟨0, Nat.zero_le _, rfl, fun k hk => absurd hk (Nat.not_lt_zero k)⟩
  case round =>
    obtain ⟨m, hm, rfl, HR⟩ := hrel
    by_cases hlt : m < n
    · obtain ⟨b1, o1, rfl, _, hc1⟩ := (HX.out w1 hb1).at_ (by omega)
      obtain ⟨b2, o2, rfl, _, hc2⟩ := (HY.out w1 hb1).at_ (by omega)
      have k1 := hc1 m hlt
      have k2 := hc2 m hlt
      have e1 : xs[m]?.getD 0 = atN xs m := rfl
      have e2 : ys[m]?.getD 0 = atN ys m := rfl
      rw [e1] at k1
      rw [e2] at k2
      have HRm : Hid (0 ≤ atN xs m → atN xs m ≤ 32768 → 0 ≤ atN ys m → atN ys m ≤ 32768 → ∀ k, k < m + 1 → (0 ≤ atN xs k ∧ atN xs k ≤ 32768) ∧ (0 ≤ atN ys k ∧ atN ys k ≤ 32768)) := fun g1 g2 g3 g4 k hk => by
        rcases Nat.lt_succ_iff_lt_or_eq.1 hk with h | rfl
        · exact HR.out k h
        · exact ⟨⟨g1, g2⟩, g3, g4⟩
      clear hc1 hc2 e1 e2 HR HN HB0 HB4 HBv HX HY
      by_cases g1 : atN xs m < 0
      · generalize atN xs m = x at *
        generalize atN ys m = y at *
        clear HRm
        go_wp2
        all_goals
          go_ret
          exact ⟨rfl, hb1⟩
      · by_cases g2 : 32768 < atN xs m
        · generalize atN xs m = x at *
          generalize atN ys m = y at *
          clear HRm
          go_wp2
          all_goals
            go_ret
            exact ⟨rfl, hb1⟩
        · by_cases g3 : atN ys m < 0
          · generalize atN xs m = x at *
            generalize atN ys m = y at *
            clear HRm
            go_wp2
            all_goals
              go_ret
              exact ⟨rfl, hb1⟩
          · by_cases g4 : 32768 < atN ys m
            · generalize atN xs m = x at *
              generalize atN ys m = y at *
              clear HRm
              go_wp2
              all_goals
                go_ret
                exact ⟨rfl, hb1⟩
            · have HR2 : Hid (∀ k, k < m + 1 → (0 ≤ atN xs k ∧ atN xs k ≤ 32768) ∧ (0 ≤ atN ys k ∧ atN ys k ≤ 32768)) := HRm.out (by omega) (by omega) (by omega) (by omega)
              clear HRm
              generalize atN xs m = x at k1 g1 g2
              generalize atN ys m = y at k2 g3 g4
              go_wp2
              go_round
              case rel => exact ⟨m + 1, by omega, by go_num, HR2⟩
              case measure => simp [intOf]; omega
    · have hm' : m = n := by omega
      subst hm'
      obtain ⟨e0, e4, el⟩ := HN.out HR.out
      rw [e0] at HB0
      rw [e4] at HB4
      have HL : Hid (∀ k, k < m → L[k]?.getD 0 = betweenZ (atN xs k) (atN ys k) v) := el
      clear HN e0 e4 el
      have y1 : Hid True := trivial
      have y2 : Hid True := trivial
      have y3 : Hid True := trivial
      have hB := hb1
      go_wp2_with (first
        | (go_at_call 11; clear y1; go_loud (refine (HBv.out _ hB).mono ?_; rintro e w2 ⟨a3, rfl, hz3, hb2⟩; replace hB := hB.trans (hb2.mono hB.size); clear hb2))
        | (go_at_call 11; clear y2; go_loud (refine (HB0.out _ hB).mono ?_; rintro e w3 ⟨a4, rfl, hz4, hb3⟩; replace hz3 := hz3.keep hb3; replace hB := hB.trans (hb3.mono hB.size); clear hb3))
        | (go_at_call 11; go_loud (refine (HB4.out _ hB).mono ?_; rintro e w4 ⟨a5, rfl, hz5, hb4⟩; replace hz3 := hz3.keep hb4; replace hz4 := hz4.keep hb4; replace hB := hB.trans (hb4.mono hB.size); clear hb4))
        | (go_at_call 16; clear y3; go_loud (refine (zsame_any _ _ m _ _ xs _ hz4 (HX.out _ hB) (by omega)).mono ?_; rintro e w5 ⟨rfl, k5, rfl⟩; replace hz3 := hz3.drewN k5; replace hz5 := hz5.drewN k5; replace hB := below_drewN hB k5))
        | (go_at_call 16; go_loud (refine (zsame_any _ _ m _ _ ys _ hz5 (HY.out _ hB) (by omega)).mono ?_; rintro e w6 ⟨rfl, k6, rfl⟩; replace hz3 := hz3.drewN k6; replace hB := below_drewN hB k6; rw [World.drewN_drewN] at hz3 hB)))
      have HZX := HX.out _ hB
      have HZY := HY.out _ hB
      have H1 : Hid (0 < m → ∃ b off, a1 = some ⟨b, off, none⟩ ∧ ∀ i, i < m → (w4.drewN (k5 + k6)).cell? ⟨b, off + i, none⟩ = some (.int .i64 (atN xs i))) := fun h => by obtain ⟨b, off, e, _, hc⟩ := HZX.at_ h; exact ⟨b, off, e, hc⟩
      have H2 : Hid (0 < m → ∃ b off, a2 = some ⟨b, off, none⟩ ∧ ∀ i, i < m → (w4.drewN (k5 + k6)).cell? ⟨b, off + i, none⟩ = some (.int .i64 (atN ys i))) := fun h => by obtain ⟨b, off, e, _, hc⟩ := HZY.at_ h; exact ⟨b, off, e, hc⟩
      have H3 : Hid (0 < m → ∃ b off, a3 = some ⟨b, off, none⟩ ∧ ∀ i, i < m → (w4.drewN (k5 + k6)).cell? ⟨b, off + i, none⟩ = some (.int .i64 (atN L i))) := fun h => by obtain ⟨b, off, e, _, hc⟩ := hz3.at_ h; exact ⟨b, off, e, hc⟩
      clear HZX HZY hz3 HX HY HB0 HB4 HBv hb1
      obtain ⟨W0, hW0⟩ : ∃ W0, w4.drewN (k5 + k6) = W0 := ⟨_, rfl⟩
      rw [hW0] at hB H1 H2 H3 ⊢
      have HBW : Hid (Below w.heap.size w W0) := hB
      clear hW0 hB
      go_loopw [14, 15, 16] (fun i _ _ W => (∃ d, W = W0.drewN d) ∧ ∃ k : Nat, k ≤ m ∧ i = .int .i64 k) (fun i _ _ _ => m - (intOf i).toNat)
      case atStart => exact ⟨⟨0, rfl⟩, 0, Nat.zero_le _, rfl⟩
      case round =>
        obtain ⟨⟨d, rfl⟩, k, hk, rfl⟩ := hrel
        by_cases hkm : k < m
        · obtain ⟨b1, o1, rfl, g1⟩ := H1.out (by omega)
          obtain ⟨b2, o2, rfl, g2⟩ := H2.out (by omega)
          obtain ⟨b3, o3, rfl, g3⟩ := H3.out (by omega)
          have q1 := g1 k hkm
          have q2 := g2 k hkm
          have q3 := g3 k hkm
          have q4 : (W0.drewN d).cell? ⟨b3, o3 + k, none⟩ = some (.int .i64 (atN L k)) := q3
          have hr := HR.out k hkm
          have hbi := betweenZ_in hr.1 hr.2 ⟨h0, h4⟩
          have hlk : atN L k = betweenZ (atN xs k) (atN ys k) v := HL.out k hkm
          rw [← hlk] at hbi
          generalize atN xs k = x at *
          generalize atN ys k = y at *
          generalize atN L k = z at *
          clear g1 g2 g3 hlk hr H1 H2 H3 HL HR
          by_cases hxy : y < x
          · have hz := hbi.2 (by omega)
            clear hbi
            go_wp2
            go_quiet (fail)
            all_goals
              go_wp2
              go_roundw
              case rel => exact ⟨⟨_, rfl⟩, k + 1, by omega, by go_num⟩
              case measure => simp [intOf]; omega
          · have hz := hbi.1 (by omega)
            clear hbi
            go_wp2
            go_quiet (fail)
            all_goals
              go_wp2
              go_roundw
              case rel => exact ⟨⟨_, rfl⟩, k + 1, by omega, by go_num⟩
              case measure => simp [intOf]; omega
        · go_wp2
          go_ret
          exact ⟨rfl, below_drewN HBW.out d⟩

theorem lsfBetween.walk (a1 : Option Addr) (l1 c1 : Nat) (z1 : List Int) (a2 : Option Addr) (l2 c2 : Nat) (z2 : List Int) (v : Int) (w : World) (h1 : IsRow .i64 w a1 l1 c1 z1) (h2 : IsRow .i64 w a2 l2 c2 z2) (_h3 : (Lit.int .i64 v).wf = true) :
    Calls Try.prog 7 #[.slice a1 l1 c1, .slice a2 l2 c2, .int .i64 v] w fun e w' => e = .returned (.bool true) ∧ Below w.heap.size w w' := by
  obtain ⟨hz1, hm1, _⟩ := Zs.of_isRow h1
  obtain ⟨hz2, hm2, _⟩ := Zs.of_isRow h2
  unfold maxLen at hm1 hm2
  by_cases h : l1 = l2 ∧ l1 ≤ 64 ∧ 0 ≤ v ∧ v ≤ 4
  · obtain ⟨rfl, h3, h4, h5⟩ := h
    exact between_some a1 a2 l1 c1 c2 _ _ v w hz1 hz2 h3 h4 h5
  · exact between_none a1 a2 l1 l2 c1 c2 v w hm1 hm2 h

end Go.Proofs.Ytpppnagodlpnjaa
