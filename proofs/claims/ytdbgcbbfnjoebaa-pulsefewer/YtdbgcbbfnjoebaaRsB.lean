/- The document's own reader: bits from the end. -/
import Derived.Test.YtdbgcbbfnjoebaaRsA
import Derived.Laws.Bits64
namespace Go.Proofs.Ytdbgcbbfnjoebaa
open Go.RowKit

theorem or_u64 (a b : Nat) (ha : a < 9223372036854775808) (hb : b < 9223372036854775808) : bits .or .u64 (a : Int) (b : Int) = ((a ||| b : Nat) : Int) := by
  have hx : a ||| b < 2 ^ 63 := Nat.or_lt_two_pow (by omega) (by omega)
  show IntKind.u64.wrap ((BitVec.ofInt 64 (a : Int) ||| BitVec.ofInt 64 (b : Int)).toNat : Int) = _
  rw [BitVec.toNat_or, ofInt_nat a (by omega), ofInt_nat b (by omega), IntKind.wrap_u64]
  omega

theorem and_u64 (a b : Nat) (ha : a < 9223372036854775808) (hb : b < 9223372036854775808) : bits .and .u64 (a : Int) (b : Int) = ((a &&& b : Nat) : Int) := by
  have hx : a &&& b < 2 ^ 63 := Nat.and_lt_two_pow _ (by omega)
  show IntKind.u64.wrap ((BitVec.ofInt 64 (a : Int) &&& BitVec.ofInt 64 (b : Int)).toNat : Int) = _
  rw [BitVec.toNat_and, ofInt_nat a (by omega), ofInt_nat b (by omega), IntKind.wrap_u64]
  omega

theorem and_bits_u (bs : List Nat) (raw m x : Nat) (hm : m ≤ 24) (hx : m ≤ x) (hx2 : x ≤ 31) : bits .and .u64 (bitsN bs raw x : Nat) ((2 : Int) ^ m - 1) = (bitsN bs raw m : Nat) := by
  have h1 := bitsN_32 bs raw x hx2
  have h3 : 2 ^ m ≤ 2 ^ 24 := Nat.pow_le_pow_right (by decide) hm
  have h4 : 2 ^ 24 = 16777216 := by decide
  have hp := Nat.two_pow_pos m
  have e : (2 : Int) ^ m - 1 = ((2 ^ m - 1 : Nat) : Int) := by rw [← pow_cast]; omega
  obtain ⟨y, rfl⟩ : ∃ y, x = m + y := ⟨x - m, by omega⟩
  rw [e, and_u64 _ _ (by omega) (by omega), and_mask, bitsN_mod]

theorem or_byte_u {bs : List Nat} (hb : Bytes bs) {raw back waiting : Nat} (h : 8 * back = raw + waiting) (hw : waiting ≤ 23) :
    bits .or .u64 (bitsN bs raw waiting : Nat) ((backAt bs back : Nat) * 2 ^ waiting) = (bitsN bs raw (waiting + 8) : Nat) ∧ 0 ≤ ((backAt bs back : Nat) : Int) * 2 ^ waiting ∧ ((backAt bs back : Nat) : Int) * 2 ^ waiting ≤ 2147483648 := by
  have h1 := bitsN_lt bs raw waiting
  have h2 := backAt_lt hb back
  have h3 : 2 ^ waiting ≤ 2 ^ 23 := Nat.pow_le_pow_right (by decide) hw
  have h4 : 2 ^ 23 = 8388608 := by decide
  have h5 : backAt bs back * 2 ^ waiting ≤ 255 * 8388608 := Nat.mul_le_mul (by omega) (by omega)
  have e : ((backAt bs back : Nat) : Int) * 2 ^ waiting = ((backAt bs back * 2 ^ waiting : Nat) : Int) := by rw [Int.natCast_mul, pow_cast]
  rw [e]
  refine ⟨?_, Int.natCast_nonneg _, by omega⟩
  rw [or_u64 _ _ (by omega) (by omega), or_shift _ _ _ h1, bitsN_add, ← h, bitsN_byte hb]

def RMidst (m : Nat) (p g : Nat) (bs : List Nat) (s : St) (ee k : Nat) (w : World) : Prop :=
  ∃ a n cap back wait waiting, w.rowIs p 61 11 (decG a n cap s ee (min s.front n) (min back n) wait waiting) ∧ BytesIn w g a n bs ∧ (0 < n → g ≠ p) ∧ n ≤ 140737488351232 ∧ wait = bitsN bs s.raw waiting ∧ 8 * back = s.raw + waiting ∧ waiting < m + 8 ∧ waiting + k = 40

theorem RMidst.next {p n cap back wait waiting ee fr : Nat} {a : Option Addr} {s : St} {w : World} (h : w.rowIs p 61 11 (decG a n cap s ee fr (min back n) wait waiting)) (hlt : back < n) (d d2 wait' : Nat) {b o z : Int} (hb : b = back + 1) (ho : o = wait') (hz : z = waiting + 8) :
    (((((w.drewN d).setCell ⟨p, 5, none⟩ (.int .i64 b)).drewN d2).setCell ⟨p, 6, none⟩ (.int .u64 o)).setCell ⟨p, 7, none⟩ (.int .i64 z)).rowIs p 61 11 (decG a n cap s ee fr (min (back + 1) n) wait' (waiting + 8)) := by
  have h0 : (w.drewN d).rowIs p 61 11 _ := h
  have h1 : (((w.drewN d).setCell ⟨p, 5, none⟩ (.int .i64 b)).drewN d2).rowIs p 61 11 _ := h0.set 5 _
  refine ((h1.set 6 _).set 7 _).congr (lt11 rfl rfl rfl rfl rfl ?_ ?_ ?_ rfl rfl rfl)
  · show Value.int .i64 b = .int .i64 ((min (back + 1) n : Nat) : Int)
    rw [hb, Nat.min_eq_left (by omega)]; rfl
  · rw [ho]; rfl
  · rw [hz]; rfl

theorem RMidst.over {p n cap back wait waiting ee fr : Nat} {a : Option Addr} {s : St} {w : World} (h : w.rowIs p 61 11 (decG a n cap s ee fr (min back n) wait waiting)) (hge : n ≤ back) (d wait' : Nat) {o z : Int} (ho : o = wait') (hz : z = waiting + 8) :
    (((w.drewN d).setCell ⟨p, 6, none⟩ (.int .u64 o)).setCell ⟨p, 7, none⟩ (.int .i64 z)).rowIs p 61 11 (decG a n cap s ee fr (min (back + 1) n) wait' (waiting + 8)) := by
  have h0 : (w.drewN d).rowIs p 61 11 _ := h
  refine ((h0.set 6 _).set 7 _).congr (lt11 rfl rfl rfl rfl rfl ?_ ?_ ?_ rfl rfl rfl)
  · show Value.int .i64 ((min back n : Nat) : Int) = .int .i64 ((min (back + 1) n : Nat) : Int)
    rw [Nat.min_eq_right (by omega), Nat.min_eq_right (by omega)]
  · rw [ho]; rfl
  · rw [hz]; rfl

theorem RMidst.last {p n cap bk wait waiting ee fr : Nat} {a : Option Addr} {s : St} {w : World} (h : w.rowIs p 61 11 (decG a n cap s ee fr bk wait waiting)) (m wait' waiting' : Nat) {o z c : Int} (ho : o = wait') (hz : z = waiting') (hc : c = (s.cnt + m : Nat)) :
    (((w.setCell ⟨p, 6, none⟩ (.int .u64 o)).setCell ⟨p, 7, none⟩ (.int .i64 z)).setCell ⟨p, 8, none⟩ (.int .i64 c)).rowIs p 61 11 (decG a n cap { s with raw := s.raw + m, cnt := s.cnt + m } ee fr bk wait' waiting') := by
  refine (((h.set 6 _).set 7 _).set 8 _).congr (lt11 rfl rfl rfl rfl rfl rfl ?_ ?_ ?_ rfl rfl)
  · rw [ho]; rfl
  · rw [hz]; rfl
  · rw [hc]; rfl

set_option maxRecDepth 100000 in
set_option maxHeartbeats 1600000 in
theorem rbits_loop (p g : Nat) (bs : List Nat) (s : St) (ee : Nat) (m : Nat) (hm : m ≤ 24) (w : World) (h : Rq p g bs s ee w) (hi : Inv s) (hc : s.cnt ≤ 1000000000000000) :
    Calls Try.prog 41 #[.pointer (some ⟨p, 0, none⟩), .int .i64 m] w fun e w' => e = .returned (.int .i64 (bitsN bs s.raw m)) ∧ Rq p g bs { s with raw := s.raw + m, cnt := s.cnt + m } ee w' ∧ But p w w' := by
  have H0 : Hid (∃ k, RMidst m p g bs s ee k w) := by
    obtain ⟨a, n, cap, back, wait, waiting, hrow, hbytes, hgp, hn, hw⟩ := h
    exact ⟨40 - waiting, a, n, cap, back, wait, waiting, hrow, hbytes, hgp, hn, hw.wait, hw.back, by have := hw.few; omega, by have := hw.few; omega⟩
  obtain ⟨k0, hk0⟩ := H0.out
  have K0 : Hid (RMidst m p g bs s ee k0 w) := hk0
  clear H0 hk0 h
  go_enter Try.func41, Try.ntmps41
  go_wp2
  go_loopg [] k0 (fun k W => RMidst m p g bs s ee k W ∧ But p w W)
  case atStart => exact ⟨K0.out, But.refl _ _⟩
  case round =>
    obtain ⟨⟨a, n, cap, back, wait, waiting, hrow, hbytes, hgp, hn, hw, hb, hf, hk⟩, hbut⟩ := hrel
    have q0 : wr.cell? ⟨p, 0, none⟩ = some (.slice a n cap) := hrow.cell (i := 0) (by decide)
    have q5 : wr.cell? ⟨p, 5, none⟩ = some (.int .i64 (min back n : Nat)) := hrow.cell (i := 5) (by decide)
    have q6 : wr.cell? ⟨p, 6, none⟩ = some (.int .u64 wait) := hrow.cell (i := 6) (by decide)
    have q7 : wr.cell? ⟨p, 7, none⟩ = some (.int .i64 waiting) := hrow.cell (i := 7) (by decide)
    have q8 : wr.cell? ⟨p, 8, none⟩ = some (.int .i64 s.cnt) := hrow.cell (i := 8) (by decide)
    have qf := hrow.frozen
    have v1 : wait < 2147483648 := by rw [hw]; exact bitsN_32 bs _ _ (by omega)
    have HW : Hid (wait = bitsN bs s.raw waiting) := hw
    have HB : Hid (8 * back = s.raw + waiting) := hb
    have HK : Hid (waiting + gk = 40) := hk
    have v2 : back ≤ 1000000000000000 := by have := hi.cnt; omega
    have HR : Hid (wr.rowIs p 61 11 (decG a n cap s ee (min s.front n) (min back n) wait waiting)) := hrow
    have HP : Hid (BytesIn wr g a n bs ∧ (0 < n → g ≠ p) ∧ n ≤ 140737488351232) := ⟨hbytes, hgp, hn⟩
    have v3 : s.cnt ≤ 1000000000000000 := hc
    clear hw hb hk hrow
    by_cases hlt : waiting < m
    · have hO := or_byte_u hbytes.2.1 HB.out (by omega)
      rw [← HW.out] at hO
      obtain ⟨hO1, hO2, hO3⟩ := hO
      have HO : Hid (bits .or .u64 (wait : Nat) ((backAt bs back : Nat) * 2 ^ waiting) = (bitsN bs s.raw (waiting + 8) : Nat)) := hO1
      clear hO1
      by_cases hbk : back < n
      · obtain ⟨o, rfl, hcc⟩ := hbytes.2.2 (by omega)
        obtain ⟨j, hj⟩ : ∃ j : Nat, j = n - 1 - back := ⟨_, rfl⟩
        have hx := hcc j (by omega)
        have hx2 := hbytes.2.1 j
        have e : backAt bs back = byteAt bs j := by rw [backAt, hbytes.1, if_pos hbk, hj]
        rw [← e] at hx hx2
        have hj2 : (n : Int) - ((back : Int) + 1) = (j : Int) := by omega
        have hj3 : j < n := by omega
        have hgp' := hgp (by omega)
        rw [Nat.min_eq_left (by omega)] at q5
        clear hbytes hcc e hj
        generalize backAt bs back = x at *
        go_wp2
        go_quiet (fail)
        go_wp2
        go_quiet (fail)
        go_wp2
        go_region
        all_goals
          go_wp2
          go_roundg (gk - 8)
          case measure => have := HK.out; omega
          case rel =>
            refine ⟨⟨_, n, cap, back + 1, _, waiting + 8, RMidst.next HR.out hbk _ _ (bitsN bs s.raw (waiting + 8)) rfl HO.out rfl, ?_, HP.out.2.1, HP.out.2.2, rfl, by have := HB.out; omega, by omega, by have := HK.out; omega⟩, ((((hbut.drewN _).set _ _).drewN _).set _ _).set _ _⟩
            exact HP.out.1.of_block fun h0 => (((((But.refl p wr).drewN _).set 5 _).drewN _).set 6 _ |>.set 7 _).block g (HP.out.2.1 h0)
      · rw [Nat.min_eq_right (by omega)] at q5
        have e : backAt bs back = 0 := by rw [backAt, hbytes.1, if_neg hbk]
        rw [e] at HO
        have HZ : Hid (bits .or .u64 (wait : Nat) 0 = (bitsN bs s.raw (waiting + 8) : Nat)) := by
          show _ = _
          rw [← HO.out]
          congr 1
          show (0 : Int) = ((0 : Nat) : Int) * _
          rw [Int.natCast_zero, Int.zero_mul]
        clear hbytes e HO hO2 hO3
        go_wp2
        go_quiet (fail)
        go_wp2
        go_region
        all_goals
          go_wp2
          go_roundg (gk - 8)
          case measure => have := HK.out; omega
          case rel =>
            refine ⟨⟨_, n, cap, back + 1, _, waiting + 8, RMidst.over HR.out (by omega) _ (bitsN bs s.raw (waiting + 8)) HZ.out rfl, ?_, HP.out.2.1, HP.out.2.2, rfl, by have := HB.out; omega, by omega, by have := HK.out; omega⟩, ((hbut.drewN _).set _ _).set _ _⟩
            exact HP.out.1.of_block fun h0 => (((But.refl p wr).drewN _).set 6 _ |>.set 7 _).block g (HP.out.2.1 h0)
    · clear hbytes
      have hp := two_pow_24 m hm
      have HA : Hid (bits .and .u64 (wait : Nat) ((2 : Int) ^ m - 1) = (bitsN bs s.raw m : Nat)) := by
        show _ = _
        rw [HW.out]
        exact and_bits_u bs s.raw m waiting hm (by omega) (by omega)
      have HD : Hid ((wait : Int) / 2 ^ m = (wait / 2 ^ m : Nat)) := by show _ = _; rw [Int.natCast_ediv, pow_cast]
      go_wp2
      go_ret
      have hbb := bitsN_32 bs s.raw m (by omega)
      refine ⟨ret_int (by rw [HA.out, IntWalk.wrap64_in _ ⟨by omega, by omega⟩]), ⟨a, n, cap, back, _, waiting - m, RMidst.last HR.out m (wait / 2 ^ m) (waiting - m) HD.out (by omega) (by omega), ?_, HP.out.2.1, HP.out.2.2, ⟨?_, ?_, by omega⟩⟩, ((hbut.set _ _).set _ _).set _ _⟩
      · exact HP.out.1.of_block fun h0 => ((((But.refl p wr)).set 6 _).set 7 _ |>.set 8 _).block g (HP.out.2.1 h0)
      · show _ = bitsN bs (s.raw + m) (waiting - m)
        obtain ⟨y, rfl⟩ : ∃ y, waiting = m + y := ⟨waiting - m, by omega⟩
        rw [HW.out, bitsN_div, Nat.add_sub_cancel_left]
      · show 8 * back = s.raw + m + (waiting - m)
        have := HB.out; omega

theorem rbits_any (p g : Nat) (bs : List Nat) (s : St) (n : Int) (w : World) (h' : Rr p g bs s w) (hi : Inv s) (hc : s.cnt ≤ 1000000000000000) :
    Calls Try.prog 41 #[.pointer (some ⟨p, 0, none⟩), .int .i64 n] w fun e w' => e = .returned (.int .i64 (bitsS bs n s).1) ∧ Rr p g bs (bitsS bs n s).2 w' ∧ But p w w' := by
  obtain ⟨ee, h⟩ := h'
  by_cases hn : 0 ≤ n ∧ n ≤ 24
  · obtain ⟨m, rfl⟩ := Int.eq_ofNat_of_zero_le hn.1
    rw [bitsS, if_pos hn, Int.toNat_natCast]
    exact (rbits_loop p g bs s ee m (by omega) w h hi hc).mono fun _ _ ⟨h1, h2, h3⟩ => ⟨h1, ⟨_, h2⟩, h3⟩
  · rw [bitsS, if_neg hn]
    by_cases h1 : n < 0
    · go_enter Try.func41, Try.ntmps41
      go_wp2
      go_ret
      exact ⟨rfl, ⟨_, h⟩, But.refl _ _⟩
    · have h2 : 24 < n := by omega
      go_enter Try.func41, Try.ntmps41
      go_wp2
      go_ret
      exact ⟨rfl, ⟨_, h⟩, But.refl _ _⟩

end Go.Proofs.Ytdbgcbbfnjoebaa
