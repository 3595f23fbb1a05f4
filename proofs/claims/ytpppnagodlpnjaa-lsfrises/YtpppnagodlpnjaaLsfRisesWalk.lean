/- The law of what is told, and kept apart, answers true, of any list and any index. -/
import Derived.Test.YtpppnagodlpnjaaLsfU
namespace Go.Proofs.Ytpppnagodlpnjaa
open Go.RowKit

def prevN (was : Int) (l : List Int) (i : Nat) : Int := if i = 0 then was else atN l (i - 1)
theorem apart_prev : ∀ (l : List Int) (was : Int) (i : Nat), Apart was l → i < l.length → prevN was l i + 250 ≤ atN l i
  | x :: l, was, 0, h, _ => h.1
  | x :: l, was, 1, h, hi => by
    have h2 := apart_prev l x 0 h.2 (by simpa using hi)
    exact h2
  | x :: l, was, i + 2, h, hi => by
    have h2 := apart_prev l x (i + 1) h.2 (by simp at hi ⊢; omega)
    exact h2

theorem rises_far (a : Option Addr) (n cap : Nat) (order one : Int) (a2 : Option Addr) (n2 c2 : Nat) (w : World) (h : 64 < n) (_hn : n ≤ 9223372036854775807) :
    Calls Try.prog 5 #[.slice a n cap, .int .i64 order, .agg #[.int .i64 one, .slice a2 n2 c2]] w fun e w' => e = .returned (.bool true) ∧ Below w.heap.size w w' := by
  have hb := (Below.refl w.heap.size w).alloc (Nat.le_refl _) (.cells #[.int .i64 one, .slice a2 n2 c2] 29)
  go_enter Try.func5, Try.ntmps5
  go_wp2_with (go_at_call 9; refine (awake_any _).mono ?_; rintro e w1 ⟨rfl, hb1⟩; replace hb := hb.trans (hb1.mono hb.size); clear hb1)
  go_ret
  exact ⟨rfl, hb⟩

/-- What Decode tells, good index or not: frequencies that rise apart, or none. -/
theorem decode_rises (order one : Int) (a : Option Addr) (n cap : Nat) (zs : List Int) (w : World) (hz : Zs w a n zs) (hn : n ≤ maxLen) :
    Calls Try.prog 10 #[.int .i64 order, .agg #[.int .i64 one, .slice a n cap]] w fun e w' => ∃ a' n' c' er L, e = .returned (.tuple #[.slice a' n' c', .int .i64 er]) ∧ Zs w' a' n' L ∧ Apart 0 L ∧ (∀ x ∈ L, x ≤ 32518) ∧ n' ≤ 64 ∧ Below w.heap.size w w' := by
  by_cases h : GoodX order one zs
  · refine (decode_good order one a n cap zs w hz hn h).mono ?_
    rintro e w' ⟨a', rfl, hn, hb⟩
    have hno : (n : Int) = order := by rw [← hz.len]; exact h.2.2.2.1
    have hl : (decodeZ order one zs).length = n := by rw [decodeZ_len]; omega
    have h16 := h.1
    exact ⟨a', n, n, 0, _, rfl, Zs.of_new hn hl, (decodeZ_apart h).1, (decodeZ_apart h).2, by omega, hb⟩
  · refine (decode_bad order one a n cap zs w hz hn h).mono ?_
    rintro e w' ⟨rfl, hb⟩
    exact ⟨none, 0, 0, 1, [], rfl, Zs.nil _ _, trivial, fun x hx => (by cases hx), by decide, hb⟩

set_option maxRecDepth 100000 in
set_option maxHeartbeats 4000000 in
theorem rises_near (a : Option Addr) (n cap : Nat) (zs : List Int) (order one : Int) (a2 : Option Addr) (n2 c2 : Nat) (xs : List Int) (w : World) (hz : Zs w a n zs) (hn : n ≤ 64) (hx : Zs w a2 n2 xs) (hn2 : n2 ≤ maxLen) :
    Calls Try.prog 5 #[.slice a n cap, .int .i64 order, .agg #[.int .i64 one, .slice a2 n2 c2]] w fun e w' => e = .returned (.bool true) ∧ Below w.heap.size w w' := by
  have hl : (steadyZ zs).length = n := by rw [steadyZ_len, hz.len]
  have HS1 : Hid (∀ W, Below w.heap.size w W → Calls Try.prog 14 #[.slice a n cap] W fun e w' => ∃ a', e = .returned (.slice a' n n) ∧ Zs w' a' n (steadyZ zs) ∧ Below W.heap.size W w') := fun W hb => by
    refine (steady_any a n cap zs W (hz.keep hb) hn).mono ?_
    rintro e w' ⟨a', rfl, h1, h2⟩
    exact ⟨a', rfl, Zs.of_new h1 hl, h2⟩
  have HS2 : Hid (∀ W a3 c3, Zs W a3 n (steadyZ zs) → Calls Try.prog 14 #[.slice a3 n c3] W fun e w' => ∃ a', e = .returned (.slice a' n n) ∧ Zs w' a' n (steadyZ zs) ∧ Below W.heap.size W w') := fun W a3 c3 h => by
    refine (steady_any a3 n c3 _ W h hn).mono ?_
    rw [steadyZ_again (by rw [hz.len]; exact hn)]
    rintro e w' ⟨a', rfl, h1, h2⟩
    exact ⟨a', rfl, Zs.of_new h1 hl, h2⟩
  have HD : Hid (∀ W, Below w.heap.size w W → Calls Try.prog 10 #[.int .i64 order, .agg #[.int .i64 one, .slice a2 n2 c2]] W fun e w' => ∃ a' n' c' er L, e = .returned (.tuple #[.slice a' n' c', .int .i64 er]) ∧ Zs w' a' n' L ∧ Apart 0 L ∧ (∀ x ∈ L, x ≤ 32518) ∧ n' ≤ 64 ∧ Below W.heap.size W w') := fun W hb => decode_rises order one a2 n2 c2 xs W (hx.keep hb) hn2
  have HA := steadyZ_apart (l := zs) (by rw [hz.len]; exact hn)
  have HA2 : Hid (Apart 0 (steadyZ zs) ∧ ∀ x ∈ steadyZ zs, x ≤ 32518) := HA
  clear hz hx HA hl
  generalize steadyZ zs = S at *
  have hi := Idx.new w (.int .i64 one) (.slice a2 n2 c2)
  have hB := (Below.refl w.heap.size w).alloc (Nat.le_refl _) (.cells #[.int .i64 one, .slice a2 n2 c2] 29)
  have y1 : Hid True := trivial
  go_enter Try.func5, Try.ntmps5
  go_wp2_with (first
    | (go_at_call 9; refine (awake_any _).mono ?_; rintro e w1 ⟨rfl, hb1⟩; replace hi := hi.keep hb1; replace hB := hB.trans (hb1.mono hB.size); clear hb1)
    | (go_at_call 14; clear y1; go_loud (refine (HS1.out _ hB).mono ?_; rintro e w2 ⟨a3, rfl, hz3, hb2⟩; replace hi := hi.keep hb2; replace hB := hB.trans (hb2.mono hB.size); clear hb2))
    | (go_at_call 14; go_loud (refine (HS2.out _ _ _ hz3).mono ?_; rintro e w3 ⟨a4, rfl, hz4, hb3⟩; replace hz3 := hz3.keep hb3; replace hi := hi.keep hb3; replace hB := hB.trans (hb3.mono hB.size); clear hb3))
    | (go_at_call 16; go_loud (refine (zsame_any _ _ n _ _ S _ hz4 hz3 (by omega)).mono ?_; rintro e w4 ⟨rfl, k4, rfl⟩; replace hz3 := hz3.drewN k4; replace hi := hi.keep (below_drewN (Below.refl _ _) k4); obtain ⟨i0, i1⟩ := hi.cells; replace hB := below_drewN hB k4; clear hz4))
    | (go_at_call 10; go_loud (refine (HD.out _ hB).mono ?_; rintro e w5 ⟨a5, n5, c5, er, D, rfl, hz5, hd1, hd2, hd3, hb5⟩; have hz35 := (hz3.keep hb5).alloc (.cells #[.slice a3 n n, .slice a5 n5 c5] 23); replace hz5 := hz5.alloc (.cells #[.slice a3 n n, .slice a5 n5 c5] 23); have hB5 := hB.trans (hb5.mono hB.size); have hB6 := hB5.alloc hB5.size (.cells #[.slice a3 n n, .slice a5 n5 c5] 23); have hc0 : (w5.alloc (.cells #[.slice a3 n n, .slice a5 n5 c5] 23)).cell? ⟨w5.heap.size, 0, none⟩ = some (.slice a3 n n) := (by rw [World.cell?_alloc_new]; rfl); have hc1 : (w5.alloc (.cells #[.slice a3 n n, .slice a5 n5 c5] 23)).cell? ⟨w5.heap.size, 1, none⟩ = some (.slice a5 n5 c5) := (by rw [World.cell?_alloc_new]; rfl); clear hz3 hi hB hb5 i0 i1 hB5)))
  obtain ⟨W0, hW0⟩ : ∃ W0, w5.alloc (.cells #[.slice a3 n n, .slice a5 n5 c5] 23) = W0 := ⟨_, rfl⟩
  rw [hW0] at hz35 hz5 hB6 hc0 hc1 ⊢
  have HK : Hid (∀ k : Nat, k < 2 → ∃ aK nK cK, ∃ L : List Int, W0.cell? ⟨w5.heap.size, k, none⟩ = some (.slice aK nK cK) ∧ Zs W0 aK nK L ∧ Apart 0 L ∧ (∀ x ∈ L, x ≤ 32518) ∧ nK ≤ 64) := fun k hk => by
    match k, hk with
    | 0, _ => exact ⟨_, _, _, _, hc0, hz35, HA2.out.1, HA2.out.2, hn⟩
    | 1, _ => exact ⟨_, _, _, _, hc1, hz5, hd1, hd2, hd3⟩
  have HBW : Hid (Below w.heap.size w W0) := hB6
  clear hW0 hz35 hz5 hB6 hc0 hc1 hd1 hd2 hd3 HA2 HD HS1 HS2
  generalize w5.heap.size = g at *
  go_loop [11, 12, 13] (fun k _ _ => ∃ m : Nat, m ≤ 2 ∧ k = .int .i64 m) (fun k _ _ => 2 - (intOf k).toNat)
  case atStart => exact ⟨0, by decide, rfl⟩
  case round =>
    obtain ⟨m, hm, rfl⟩ := hrel
    by_cases hlt : m < 2
    · obtain ⟨aK, nK, cK, L, hcK, hzK, hap, htop, hnK⟩ := HK.out m hlt
      have HZ : Hid (Zs W0 aK nK L) := hzK
      have HP : Hid (∀ i, i < nK → prevN 0 L i + 250 ≤ atN L i ∧ atN L i ≤ 32518 ∧ 0 ≤ prevN 0 L i) := fun i hi => by
        have hl := hzK.len
        have hlow : ∀ j, j < nK → 250 ≤ atN L j := fun j hj => by
          have := apart_low L 0 hap (atN L j) (by unfold atN; rw [List.getElem?_eq_getElem (by omega)]; exact List.getElem_mem _)
          omega
        refine ⟨apart_prev L 0 i hap (by omega), htop _ (by unfold atN; rw [List.getElem?_eq_getElem (by omega)]; exact List.getElem_mem _), ?_⟩
        unfold prevN
        split
        · exact Int.le_refl 0
        · have := hlow (i - 1) (by omega)
          omega
      clear hzK hap htop HK
      go_wp2
      go_loop [12, 13] (fun was i => ∃ j : Nat, ∃ q : Int, j ≤ nK ∧ i = .int .i64 j ∧ was = .int .i64 q ∧ Hid (q = prevN 0 L j)) (fun _ i => nK - (intOf i).toNat)
      case atStart => exact ⟨0, 0, Nat.zero_le _, rfl, rfl, rfl⟩
      case round =>
        obtain ⟨j, q, hj, rfl, rfl, HQ⟩ := hrel
        by_cases hjn : j < nK
        · obtain ⟨b, off, rfl, _, hc⟩ := HZ.out.at_ (by omega)
          have hcj := hc j hjn
          have e1 : L[j]?.getD 0 = atN L j := rfl
          rw [e1] at hcj
          obtain ⟨p1, p2, p3⟩ := HP.out j hjn
          rw [← HQ.out] at p1 p3
          have HQ2 : Hid (atN L j = prevN 0 L (j + 1)) := rfl
          clear hc HP HQ HZ e1
          generalize atN L j = x at *
          go_wp2
          go_round
          case rel => exact ⟨j + 1, x, by omega, by go_num, rfl, HQ2⟩
          case measure => simp [intOf]; omega
        · go_wp2
          go_round
          case rel => exact ⟨m + 1, by omega, by go_num⟩
          case measure => simp [intOf]; omega
    · go_wp2
      go_ret
      exact ⟨rfl, HBW.out⟩

theorem lsfRises.walk (a : Option Addr) (len cap : Nat) (z : List Int) (order : Int) (one : Int) (a2 : Option Addr) (len2 cap2 : Nat) (z2 : List Int) (w : World) (h : IsRow .i64 w a len cap z) (_w0 : (Lit.int .i64 order).wf = true) (_w1 : (Lit.int .i64 one).wf = true) (h2 : IsRow .i64 w a2 len2 cap2 z2) :
    Calls Try.prog 5 #[.slice a len cap, .int .i64 order, .agg #[.int .i64 one, .slice a2 len2 cap2]] w fun e w' => e = .returned (.bool true) ∧ Below w.heap.size w w' := by
  obtain ⟨hz, hm, _⟩ := Zs.of_isRow h
  obtain ⟨hz2, hm2, _⟩ := Zs.of_isRow h2
  by_cases hl : len ≤ 64
  · exact rises_near a len cap _ order one a2 len2 cap2 _ w hz hl hz2 hm2
  · exact rises_far a len cap order one a2 len2 cap2 w (by omega) (by unfold maxLen at hm; exact hm)

end Go.Proofs.Ytpppnagodlpnjaa
