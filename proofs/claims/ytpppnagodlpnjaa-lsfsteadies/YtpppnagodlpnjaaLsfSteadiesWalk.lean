/- The law of what rises apart already answers true, of any gaps. -/
import Derived.Test.YtpppnagodlpnjaaLsfU
namespace Go.Proofs.Ytpppnagodlpnjaa
open Go.RowKit

theorem and255 (n : Int) : bits .and .i64 n 255 = n % 256 := by
  have hm : (BitVec.ofInt 64 255).toNat = 2 ^ 8 - 1 := by decide
  have key : (BitVec.ofInt 64 n &&& BitVec.ofInt 64 255).toNat = (n % ((2 ^ 64 : Nat) : Int)).toNat % 2 ^ 8 := by
    rw [BitVec.toNat_and, BitVec.toNat_ofInt, hm, Nat.and_two_pow_sub_one_eq_mod]
  show IntKind.i64.wrap ((BitVec.ofInt 64 n &&& BitVec.ofInt 64 255).toNat : Nat) = n % 256
  rw [key, IntKind.wrap_i64]
  omega

/-- The numbers that the gaps lay. -/
def riseL : Int → List Int → List Int
  | _, [] => []
  | was, g :: gs => (was + 250 + g % 256) :: riseL (was + 250 + g % 256) gs
theorem riseL_len : ∀ (gs : List Int) (was : Int), (riseL was gs).length = gs.length
  | [], _ => rfl
  | g :: gs, was => by show (riseL _ gs).length + 1 = gs.length + 1; rw [riseL_len gs]
theorem riseL_apart : ∀ (gs : List Int) (was : Int), Apart was (riseL was gs)
  | [], _ => trivial
  | g :: gs, was => ⟨by omega, riseL_apart gs _⟩
theorem riseL_top : ∀ (gs : List Int) (was : Int), ∀ x ∈ riseL was gs, x ≤ was + 505 * (gs.length : Int)
  | g :: gs, was, x, hx => by
    have hx' : x = was + 250 + g % 256 ∨ x ∈ riseL (was + 250 + g % 256) gs := List.mem_cons.1 hx
    simp only [List.length_cons]
    rcases hx' with h | h
    · omega
    · have := riseL_top gs _ x h
      omega
theorem riseL_append : ∀ (a b : List Int) (was : Int), riseL was (a ++ b) = riseL was a ++ riseL ((riseL was a).getLastD was) b
  | [], _, _ => rfl
  | x :: a, b, was => by
    show (was + 250 + x % 256) :: riseL (was + 250 + x % 256) (a ++ b) = _
    rw [riseL_append a b]
    show _ = (was + 250 + x % 256) :: (riseL (was + 250 + x % 256) a ++ riseL (((was + 250 + x % 256) :: riseL (was + 250 + x % 256) a).getLastD was) b)
    rw [List.getLastD_cons]
def lastR (gs : List Int) (m : Nat) : Int := (riseL 0 (gs.take m)).getLastD 0
theorem riseL_step {gs : List Int} {m : Nat} (h : m < gs.length) : riseL 0 (gs.take (m + 1)) = riseL 0 (gs.take m) ++ [lastR gs m + 250 + gs[m]?.getD 0 % 256] := by
  rw [take_snoc h, riseL_append]
  rfl
theorem lastR_step {gs : List Int} {m : Nat} (h : m < gs.length) : lastR gs (m + 1) = lastR gs m + 250 + gs[m]?.getD 0 % 256 := by
  show (riseL 0 (gs.take (m + 1))).getLastD 0 = _
  rw [riseL_step h, last_snoc]
theorem lastR_in (gs : List Int) : ∀ m, m ≤ gs.length → 0 ≤ lastR gs m ∧ lastR gs m ≤ 505 * (m : Int)
  | 0, _ => ⟨Int.le_refl 0, Int.le_refl 0⟩
  | m + 1, h => by
    have h1 := lastR_in gs m (by omega)
    rw [lastR_step (by omega)]
    omega

theorem steadies_far (a : Option Addr) (n cap : Nat) (w : World) (h : 64 < n) (_hn : n ≤ 9223372036854775807) :
    Calls Try.prog 8 #[.slice a n cap] w fun e w' => e = .returned (.bool true) ∧ Below w.heap.size w w' := by
  go_enter Try.func8, Try.ntmps8
  go_wp2_with (go_at_call 9; refine (awake_any _).mono ?_; rintro e w1 ⟨rfl, hb1⟩)
  go_ret
  exact ⟨rfl, hb1⟩

set_option maxHeartbeats 1000000 in
theorem steadies_near (a : Option Addr) (n cap : Nat) (gs : List Int) (w : World) (hz : Zs w a n gs) (hn : n ≤ 64) :
    Calls Try.prog 8 #[.slice a n cap] w fun e w' => e = .returned (.bool true) ∧ Below w.heap.size w w' := by
  have HZ : Hid (∀ W, Below w.heap.size w W → Zs W a n gs) := fun W hb => hz.keep hb
  have HL : Hid (gs.length = n) := hz.len
  clear hz
  go_enter Try.func8, Try.ntmps8
  go_wp2_with (go_at_call 9; refine (awake_any _).mono ?_; rintro e w1 ⟨rfl, hb1⟩)
  have HB : Hid (Below w.heap.size w w1) := hb1
  clear hb1
  go_loopw [3, 4, 5] (fun v at_ k W => ∃ m : Nat, ∃ q : Int, m ≤ n ∧ k = .int .i64 m ∧ at_ = .int .i64 q ∧ Hid (q = lastR gs m) ∧ W.ownsRow w1.heap.size 2 1 v m ((riseL 0 (gs.take m)).map (Value.int .i64)) ∧ Below w1.heap.size w1 W) (fun _ _ k _ => n - (intOf k).toNat)
  case atStart => exact ⟨0, 0, Nat.zero_le _, rfl, rfl, rfl, World.ownsRow_nil _ _ _ _, Below.refl _ _⟩
  case round =>
    obtain ⟨m, q, hm, rfl, rfl, HQ, hown, hbel⟩ := hrel
    have hin := lastR_in gs m (by rw [HL.out]; exact hm)
    rw [← HQ.out] at hin
    by_cases hlt : m < n
    · obtain ⟨b, off, rfl, hb, hc⟩ := (HZ.out wr (HB.out.trans (hbel.mono HB.out.size))).at_ (by omega)
      have hcm := hc m hlt
      have hs1 := riseL_step (gs := gs) (m := m) (by rw [HL.out]; exact hlt)
      have hs2 := lastR_step (gs := gs) (m := m) (by rw [HL.out]; exact hlt)
      rw [← HQ.out] at hs1 hs2
      generalize gs[m]?.getD 0 = z at *
      have ha := and255 z
      have hz : 0 ≤ z % 256 ∧ z % 256 ≤ 255 := by omega
      generalize z % 256 = y at *
      have HT : Hid (riseL 0 (gs.take m) ++ [q + 250 + y] = riseL 0 (gs.take (m + 1))) := hs1.symm
      have HQ2 : Hid (q + 250 + y = lastR gs (m + 1)) := hs2.symm
      have hB := hbel.size
      clear hs1 hs2 HZ HL HQ hc
      go_wp2_with (at_builtin; refine wpList_append_one 23 2 Try.underlying23 info_int64 w1.heap.size _ m (riseL 0 (gs.take m)) _ hown (by omega) hB rfl _ _ rfl rfl rfl ?_; rw [HT.out]; intro v' w2 hown1 hb1; clear hown; have hb2 := hbel.trans hb1; clear hbel hb1)
      go_roundw
      case rel => exact ⟨m + 1, _, by omega, by go_num, rfl, HQ2, hown1, hb2⟩
      case measure => simp [intOf]; omega
    · have hm' : m = n := by omega
      subst hm'
      have hr : (riseL 0 (gs.take m)) = riseL 0 gs := by rw [List.take_of_length_le (by rw [HL.out]; exact Nat.le_refl _)]
      rw [hr] at hown
      have hlen : (riseL 0 gs).length = m := by rw [riseL_len, HL.out]
      have hsame : steadyZ (riseL 0 gs) = riseL 0 gs := steadyZ_same (riseL_apart gs 0) fun x hx => by
        have := riseL_top gs 0 x hx
        rw [HL.out] at this
        omega
      obtain ⟨_, a', c', rfl, hnew⟩ := NewRow.of_owned hown
      have HZ1 : Hid (Zs wr a' m (riseL 0 gs)) := Zs.of_new hnew hlen
      have HBW : Hid (Below w.heap.size w wr) := HB.out.trans (hbel.mono HB.out.size)
      have HSm : Hid (∀ W, Zs W a' m (riseL 0 gs) → Calls Try.prog 14 #[.slice a' m c'] W fun e w' => ∃ a2, e = .returned (.slice a2 m m) ∧ Zs w' a2 m (riseL 0 gs) ∧ Below W.heap.size W w') := fun W hW => by
        refine (steady_any a' m c' _ W hW hn).mono ?_
        rw [hsame]
        rintro e w' ⟨a2, rfl, hn2, hb2⟩
        exact ⟨a2, rfl, Zs.of_new hn2 hlen, hb2⟩
      clear hown hnew hsame hlen hr HZ HL HQ HB hbel
      generalize riseL 0 gs = L at *
      have hq : ¬ 32518 < q := by omega
      go_wp2_with (first
        | (go_at_call 14; refine (HSm.out _ HZ1.out).mono ?_; rintro e w3 ⟨a3, rfl, hz3, hb3⟩; have HZ3 := HZ1.out.keep hb3; have HB3 := HBW.out.trans (hb3.mono HBW.out.size); clear hb3)
        | (go_at_call 16; refine (zsame_any _ _ m _ _ L _ hz3 HZ3 (by omega)).mono ?_; rintro e w4 ⟨rfl, k4, rfl⟩; have HB4 := below_drewN HB3 k4; clear HB3))
      go_ret
      exact ⟨rfl, HB4⟩

theorem lsfSteadies.walk (a : Option Addr) (len cap : Nat) (z : List Int) (w : World) (h : IsRow .i64 w a len cap z) :
    Calls Try.prog 8 #[.slice a len cap] w fun e w' => e = .returned (.bool true) ∧ Below w.heap.size w w' := by
  obtain ⟨hz, hm, _⟩ := Zs.of_isRow h
  unfold maxLen at hm
  by_cases hl : len ≤ 64
  · exact steadies_near a len cap _ w hz hl
  · exact steadies_far a len cap w (by omega) hm

end Go.Proofs.Ytpppnagodlpnjaa
