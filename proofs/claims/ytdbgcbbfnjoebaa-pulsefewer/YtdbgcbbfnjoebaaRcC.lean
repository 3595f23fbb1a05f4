/- The program's reader: how much was read, whether it can be; bits from the end. -/
import Derived.Test.YtdbgcbbfnjoebaaRcB
import Derived.Deep.Light
namespace Go.Proofs.Ytdbgcbbfnjoebaa
open Go.RowKit

theorem bitLen_lenN (x : Nat) (h : x < 2 ^ 64) : Lib.bitLen x = lenN x := by
  by_cases h0 : x = 0
  · subst h0; rfl
  · rw [bitLen_log x h0 h, lenN, if_neg h0]

theorem len_nat_any (x : Nat) (w : World) (h1 : x ≤ 9223372036854775807) :
    Calls Try.prog 32 #[.int .u64 x] w fun e w' => e = .returned (.int .i64 (lenN x)) ∧ w' = w := by
  have HL : Hid (Lib.bitLen ((x : Int)).toNat = lenN x) := by
    show _ = _
    rw [Int.toNat_natCast]
    exact bitLen_lenN x (by omega)
  go_enter Try.func32, Try.ntmps32
  go_wp2_with (go_at_call 57; refine (len64_any _ _ ?_ ?_).mono ?_; (· omega); (· omega); rw [HL.out]; rintro e w' ⟨rfl, rfl⟩)
  go_ret
  exact ⟨rfl, rfl⟩

theorem tell_any (p g : Nat) (bs : List Nat) (s : St) (w : World) (h : Rd p g bs s w) (hi : Inv s) (hc : s.cnt ≤ 2000000000000000) :
    Calls Try.prog 17 #[.pointer (some ⟨p, 0, none⟩)] w fun e w' => e = .returned (.int .i64 (tellZ s)) ∧ ∃ k, w' = w.drewN k := by
  obtain ⟨q1, q2, _, _, q8, _, _⟩ := h.fields
  have i1 := hi.low
  have i2 := hi.high
  have i3 := lenN_in i1 i2
  have HT : Hid ((s.cnt : Int) - (lenN s.rng : Int) = tellZ s) := rfl
  clear h hi
  go_enter Try.func17, Try.ntmps17
  go_wp2
  go_quiet (first | (go_at_call 32; exact Calls.quiet_of_same (len_nat_any _ _ (by omega))))
  go_wp2
  go_ret
  exact ⟨ret_int (by rw [← HT.out]), _, rfl⟩

def badB (bs : List Nat) (s : St) : Bool := s.bad || decide (8 * (bs.length : Int) < tellZ s)

theorem fromBack_run (p g n cap back : Nat) (a : Option Addr) (bs : List Nat) (w : World) (hb : BytesIn w g a n bs) (hn : n ≤ 140737488351232) (hgp : 0 < n → g ≠ p) (hf : back ≤ 1000000000000000)
    (c0 : w.cell? ⟨p, 0, none⟩ = some (.slice a n cap)) (c5 : w.cell? ⟨p, 5, none⟩ = some (.int .i64 back)) (f5 : w.frozen? ⟨p, 5, none⟩ = false) :
    Calls Try.prog 70 #[.pointer (some ⟨p, 0, none⟩)] w fun e w' => e = .returned (.int .i64 (backAt bs back)) ∧ ∃ k, w' = (w.setCell ⟨p, 5, none⟩ (.int .i64 (back + 1))).drewN k := by
  have HB : Hid (∀ v, BytesIn (w.setCell ⟨p, 5, none⟩ v) g a n bs) := fun v => hb.of_block (fun h0 => Below.heap_setCell _ _ _ _ (hgp h0))
  have HE : Hid ((atI bs ((n : Int) - (back + 1)) : Int) = backAt bs back) := by show _ = _; rw [← hb.1, atI_back]
  clear hb hgp
  go_enter Try.func70, Try.ntmps70
  go_wp2
  go_quiet (first | (go_at_call 51; refine Calls.quiet_of_same (at_run p g n cap a bs _ _ (HB.out _) hn ?_); go_simp))
  go_wp2
  go_ret
  exact ⟨ret_int (by rw [← HE.out]), _, rfl⟩

theorem bitsN_32 (bs : List Nat) (at_ n : Nat) (h : n ≤ 31) : bitsN bs at_ n < 2147483648 := by
  have h1 := bitsN_lt bs at_ n
  have h2 : 2 ^ n ≤ 2 ^ 31 := Nat.pow_le_pow_right (by decide) h
  have h3 : 2 ^ 31 = 2147483648 := by decide
  omega

theorem two_pow_24 (m : Nat) (h : m ≤ 24) : 1 ≤ (2 : Int) ^ m ∧ (2 : Int) ^ m ≤ 16777216 := by
  have h3 : 2 ^ m ≤ 2 ^ 24 := Nat.pow_le_pow_right (by decide) h
  have h4 : 2 ^ 24 = 16777216 := by decide
  have hp := Nat.two_pow_pos m
  rw [← pow_cast]
  omega

/-- In the midst of reading bits: m of them are wanted. -/
def Midst (m : Nat) (p g : Nat) (bs : List Nat) (s : St) (k : Nat) (w : World) : Prop :=
  ∃ a n cap back wait waiting, w.rowIs p 50 10 (decF a n cap s back wait waiting) ∧ BytesIn w g a n bs ∧ (0 < n → g ≠ p) ∧ n ≤ 140737488351232 ∧ wait = bitsN bs s.raw waiting ∧ 8 * back = s.raw + waiting ∧ waiting < m + 8 ∧ waiting + k = 40

theorem Midst.next {p n cap back wait waiting : Nat} {a : Option Addr} {s : St} {w : World} (h : w.rowIs p 50 10 (decF a n cap s back wait waiting)) (d wait' : Nat) {b o z : Int} (hb : b = back + 1) (ho : o = wait') (hz : z = waiting + 8) :
    ((((w.setCell ⟨p, 5, none⟩ (.int .i64 b)).drewN d).setCell ⟨p, 6, none⟩ (.int .i64 o)).setCell ⟨p, 7, none⟩ (.int .i64 z)).rowIs p 50 10 (decF a n cap s (back + 1) wait' (waiting + 8)) := by
  have h1 : ((w.setCell ⟨p, 5, none⟩ (.int .i64 b)).drewN d).rowIs p 50 10 _ := h.set 5 _
  refine ((h1.set 6 _).set 7 _).congr (lt10 rfl rfl rfl rfl rfl ?_ ?_ ?_ rfl rfl)
  · rw [hb]; rfl
  · rw [ho]; rfl
  · rw [hz]; rfl

theorem and_bits (bs : List Nat) (raw m x : Nat) (hm : m ≤ 24) (hx : m ≤ x) (hx2 : x ≤ 31) : bits .and .i64 (bitsN bs raw x : Nat) ((2 : Int) ^ m - 1) = (bitsN bs raw m : Nat) := by
  have h1 := bitsN_32 bs raw x hx2
  have h3 : 2 ^ m ≤ 2 ^ 24 := Nat.pow_le_pow_right (by decide) hm
  have h4 : 2 ^ 24 = 16777216 := by decide
  have hp := Nat.two_pow_pos m
  have e : (2 : Int) ^ m - 1 = ((2 ^ m - 1 : Nat) : Int) := by rw [← pow_cast]; omega
  obtain ⟨y, rfl⟩ : ∃ y, x = m + y := ⟨x - m, by omega⟩
  rw [e, and_i64 _ _ (by omega) (by omega), and_mask, bitsN_mod]

theorem Midst.last {p n cap back wait waiting : Nat} {a : Option Addr} {s : St} {w : World} (h : w.rowIs p 50 10 (decF a n cap s back wait waiting)) (d m wait' waiting' : Nat) {o z c : Int} (ho : o = wait') (hz : z = waiting') (hc : c = (s.cnt + m : Nat)) :
    ((((w.drewN d).setCell ⟨p, 6, none⟩ (.int .i64 o)).setCell ⟨p, 7, none⟩ (.int .i64 z)).setCell ⟨p, 8, none⟩ (.int .i64 c)).rowIs p 50 10 (decF a n cap { s with raw := s.raw + m, cnt := s.cnt + m } back wait' waiting') := by
  have h1 : (w.drewN d).rowIs p 50 10 _ := h
  refine (((h1.set 6 _).set 7 _).set 8 _).congr (lt10 rfl rfl rfl rfl rfl rfl ?_ ?_ ?_ rfl)
  · rw [ho]; rfl
  · rw [hz]; rfl
  · rw [hc]; rfl

theorem or_byte {bs : List Nat} (hb : Bytes bs) {raw back waiting : Nat} (h : 8 * back = raw + waiting) (hw : waiting ≤ 23) :
    bits .or .i64 (bitsN bs raw waiting : Nat) (wrap64 ((backAt bs back : Nat) * 2 ^ waiting)) = (bitsN bs raw (waiting + 8) : Nat) := by
  have h1 := bitsN_lt bs raw waiting
  have h2 := backAt_lt hb back
  have h3 : 2 ^ waiting ≤ 2 ^ 23 := Nat.pow_le_pow_right (by decide) hw
  have h4 : 2 ^ 23 = 8388608 := by decide
  have h5 : backAt bs back * 2 ^ waiting ≤ 255 * 8388608 := Nat.mul_le_mul (by omega) (by omega)
  have e : ((backAt bs back : Nat) : Int) * 2 ^ waiting = ((backAt bs back * 2 ^ waiting : Nat) : Int) := by rw [Int.natCast_mul, pow_cast]
  rw [e, IntWalk.wrap64_in _ ⟨by omega, by omega⟩]
  rw [or_i64 _ _ (by omega) (by omega), or_shift _ _ _ h1, bitsN_add, ← h, bitsN_byte hb]

set_option maxHeartbeats 1600000 in
theorem bits_loop (p g : Nat) (bs : List Nat) (s : St) (m : Nat) (hm : m ≤ 24) (w : World) (h : Rd p g bs s w) (hi : Inv s) (hc : s.cnt ≤ 1000000000000000) :
    Calls Try.prog 50 #[.pointer (some ⟨p, 0, none⟩), .int .i64 m] w fun e w' => e = .returned (.int .i64 (bitsN bs s.raw m)) ∧ Rd p g bs { s with raw := s.raw + m, cnt := s.cnt + m } w' ∧ But p w w' := by
  have H0 : Hid (∃ k, Midst m p g bs s k w) := by
    obtain ⟨a, n, cap, back, wait, waiting, hrow, hbytes, hgp, hn, hw⟩ := h
    exact ⟨40 - waiting, a, n, cap, back, wait, waiting, hrow, hbytes, hgp, hn, hw.wait, hw.back, by have := hw.few; omega, by have := hw.few; omega⟩
  obtain ⟨k0, hk0⟩ := H0.out
  have K0 : Hid (Midst m p g bs s k0 w) := hk0
  clear H0 hk0 h
  go_enter Try.func50, Try.ntmps50
  go_wp2
  go_loopg [] k0 (fun k W => Midst m p g bs s k W ∧ But p w W)
  case atStart => exact ⟨K0.out, But.refl _ _⟩
  case round =>
    obtain ⟨⟨a, n, cap, back, wait, waiting, hrow, hbytes, hgp, hn, hw, hb, hf, hk⟩, hbut⟩ := hrel
    have q0 : wr.cell? ⟨p, 0, none⟩ = some (.slice a n cap) := hrow.cell (i := 0) (by decide)
    have q5 : wr.cell? ⟨p, 5, none⟩ = some (.int .i64 back) := hrow.cell (i := 5) (by decide)
    have q6 : wr.cell? ⟨p, 6, none⟩ = some (.int .i64 wait) := hrow.cell (i := 6) (by decide)
    have q7 : wr.cell? ⟨p, 7, none⟩ = some (.int .i64 waiting) := hrow.cell (i := 7) (by decide)
    have q8 : wr.cell? ⟨p, 8, none⟩ = some (.int .i64 s.cnt) := hrow.cell (i := 8) (by decide)
    have qf := hrow.frozen
    have v1 : wait < 2147483648 := by rw [hw]; exact bitsN_32 bs _ _ (by omega)
    have HW : Hid (wait = bitsN bs s.raw waiting) := hw
    have HB : Hid (8 * back = s.raw + waiting) := hb
    have HK : Hid (waiting + gk = 40) := hk
    have v2 : back ≤ 1000000000000000 := by have := hi.cnt; omega
    have HR : Hid (wr.rowIs p 50 10 (decF a n cap s back wait waiting)) := hrow
    have HY : Hid (∀ k, BytesIn (wr.drewN k) g a n bs) := fun k => hbytes
    have HP : Hid (BytesIn wr g a n bs ∧ (0 < n → g ≠ p) ∧ n ≤ 140737488351232) := ⟨hbytes, hgp, hn⟩
    have v3 : s.cnt ≤ 1000000000000000 := hc
    clear hw hb hk hrow
    by_cases hlt : waiting < m
    · have HO : Hid (bits .or .i64 (wait : Nat) (wrap64 ((backAt bs back : Nat) * 2 ^ waiting)) = (bitsN bs s.raw (waiting + 8) : Nat)) := by
        show _ = _
        rw [HW.out]
        exact or_byte hbytes.2.1 HB.out (by omega)
      clear hbytes
      go_wp2
      go_region_with (first | (go_at_call 70; refine (fromBack_run p g n cap back a bs _ ?_ hn hgp v2 ?_ ?_ ?_).mono ?_; (· exact HY.out 0); (· go_simp); (· go_simp); (· go_simp); rintro e w' ⟨rfl, k, rfl⟩))
      all_goals
        go_wp2
        go_roundg (gk - 8)
        case measure => have := HK.out; omega
        case rel =>
          refine ⟨⟨a, n, cap, back + 1, _, waiting + 8, Midst.next HR.out _ (bitsN bs s.raw (waiting + 8)) rfl HO.out rfl, ?_, HP.out.2.1, HP.out.2.2, rfl, by have := HB.out; omega, by omega, by have := HK.out; omega⟩, (((hbut.set _ _).drewN _).set _ _).set _ _⟩
          exact HP.out.1.of_block fun h0 => ((((But.refl p wr).set 5 _).drewN _).set 6 _ |>.set 7 _).block g (HP.out.2.1 h0)
    · clear hbytes
      have hp := two_pow_24 m hm
      have HA : Hid (bits .and .i64 (wait : Nat) ((2 : Int) ^ m - 1) = (bitsN bs s.raw m : Nat)) := by
        show _ = _
        rw [HW.out]
        exact and_bits bs s.raw m waiting hm (by omega) (by omega)
      have HD : Hid ((wait : Int) / 2 ^ m = (wait / 2 ^ m : Nat)) := by show _ = _; rw [Int.natCast_ediv, pow_cast]
      go_wp2
      go_quiet (fail)
      go_wp2
      go_ret
      refine ⟨ret_int HA.out, ⟨a, n, cap, back, _, waiting - m, Midst.last HR.out _ m (wait / 2 ^ m) (waiting - m) HD.out (by omega) (by omega), ?_, HP.out.2.1, HP.out.2.2, ⟨?_, ?_, by omega⟩⟩, (((hbut.drewN _).set _ _).set _ _).set _ _⟩
      · exact HP.out.1.of_block fun h0 => ((((But.refl p wr).drewN _).set 6 _).set 7 _ |>.set 8 _).block g (HP.out.2.1 h0)
      · show _ = bitsN bs (s.raw + m) (waiting - m)
        obtain ⟨y, rfl⟩ : ∃ y, waiting = m + y := ⟨waiting - m, by omega⟩
        rw [HW.out, bitsN_div, Nat.add_sub_cancel_left]
      · show 8 * back = s.raw + m + (waiting - m)
        have := HB.out; omega

theorem bits_any (p g : Nat) (bs : List Nat) (s : St) (n : Int) (w : World) (h : Rd p g bs s w) (hi : Inv s) (hc : s.cnt ≤ 1000000000000000) :
    Calls Try.prog 50 #[.pointer (some ⟨p, 0, none⟩), .int .i64 n] w fun e w' => e = .returned (.int .i64 (bitsS bs n s).1) ∧ Rd p g bs (bitsS bs n s).2 w' ∧ But p w w' := by
  by_cases hn : 0 ≤ n ∧ n ≤ 24
  · obtain ⟨m, rfl⟩ := Int.eq_ofNat_of_zero_le hn.1
    rw [bitsS, if_pos hn, Int.toNat_natCast]
    exact bits_loop p g bs s m (by omega) w h hi hc
  · rw [bitsS, if_neg hn]
    by_cases h1 : n < 0
    · go_enter Try.func50, Try.ntmps50
      go_wp2
      go_ret
      exact ⟨rfl, h, But.refl _ _⟩
    · have h2 : 24 < n := by omega
      go_enter Try.func50, Try.ntmps50
      go_wp2
      go_ret
      exact ⟨rfl, h, But.refl _ _⟩

end Go.Proofs.Ytdbgcbbfnjoebaa
