/- What the inner calls of the program's reader come to: a byte, the next one from either side; going on; to choose; to take. -/
import Derived.Test.YtdbgcbbfnjoebaaRcO
namespace Go.Proofs.Ytdbgcbbfnjoebaa
open Go.RowKit

/-- A byte, and 0 past the end on either side. -/
def atI (bs : List Nat) (i : Int) : Nat := if 0 ≤ i ∧ i < bs.length then byteAt bs i.toNat else 0

theorem atI_nat (bs : List Nat) (i : Nat) : atI bs i = byteAt bs i := by
  unfold atI
  by_cases h : i < bs.length
  · rw [if_pos (by omega)]; rfl
  · rw [if_neg (by omega), byteAt, List.getElem?_eq_none (by omega)]; rfl

theorem atI_back (bs : List Nat) (j : Nat) : atI bs ((bs.length : Int) - (j + 1)) = backAt bs j := by
  unfold atI backAt
  by_cases h : j < bs.length
  · rw [if_pos (by omega), if_pos h]
    congr 1
    omega
  · rw [if_neg (by omega), if_neg h]

theorem at_run (p g n cap : Nat) (a : Option Addr) (bs : List Nat) (i : Int) (w : World) (hb : BytesIn w g a n bs) (hn : n ≤ 140737488351232) (c0 : w.cell? ⟨p, 0, none⟩ = some (.slice a n cap)) :
    Calls Try.prog 51 #[.pointer (some ⟨p, 0, none⟩), .int .i64 i] w fun e w' => e = .returned (.int .i64 (atI bs i)) ∧ w' = w := by
  obtain ⟨hl, hby, hc⟩ := hb
  unfold atI
  rw [hl]
  by_cases h1 : 0 ≤ i
  · by_cases h2 : i < n
    · obtain ⟨o, rfl, hcc⟩ := hc (by omega)
      obtain ⟨m, rfl⟩ := Int.eq_ofNat_of_zero_le h1
      have hx := hcc m (by omega)
      have hx2 := hby m
      rw [if_pos ⟨h1, h2⟩, Int.toNat_natCast]
      generalize byteAt bs m = x at *
      clear hc hcc hl hby
      go_enter Try.func51, Try.ntmps51
      go_wp2
      go_ret
      exact ⟨rfl, rfl⟩
    · rw [if_neg (by omega)]
      clear hc hby
      go_enter Try.func51, Try.ntmps51
      go_wp2
      go_ret
      exact ⟨rfl, rfl⟩
  · rw [if_neg (by omega)]
    clear hc hby
    go_enter Try.func51, Try.ntmps51
    go_wp2
    go_ret
    exact ⟨rfl, rfl⟩

theorem fromFront_run (p g n cap front : Nat) (a : Option Addr) (bs : List Nat) (w : World) (hb : BytesIn w g a n bs) (hn : n ≤ 140737488351232) (hgp : 0 < n → g ≠ p) (hf : front ≤ 1000000000000000)
    (c0 : w.cell? ⟨p, 0, none⟩ = some (.slice a n cap)) (c4 : w.cell? ⟨p, 4, none⟩ = some (.int .i64 front)) (f4 : w.frozen? ⟨p, 4, none⟩ = false) :
    Calls Try.prog 28 #[.pointer (some ⟨p, 0, none⟩)] w fun e w' => e = .returned (.int .i64 (byteAt bs front)) ∧ w' = w.setCell ⟨p, 4, none⟩ (.int .i64 (front + 1)) := by
  have HB : Hid (∀ v, BytesIn (w.setCell ⟨p, 4, none⟩ v) g a n bs) := fun v => hb.of_block (fun h0 => Below.heap_setCell _ _ _ _ (hgp h0))
  clear hb hgp
  go_enter Try.func28, Try.ntmps28
  go_wp2_with (go_at_call 51; refine (at_run p g n cap a bs _ _ (HB.out _) hn ?_).mono ?_; (· go_simp); rintro e w' ⟨rfl, rfl⟩)
  go_ret
  exact ⟨ret_int (by rw [atI_nat]), rfl⟩

theorem onS_stop {b : List Nat} {n : Nat} {s : St} (h : 8388608 < s.rng) : onS b n s = s := by
  cases n with
  | zero => rfl
  | succ n => unfold onS; rw [if_neg (by omega)]

theorem onS_step {b : List Nat} {n : Nat} {s : St} (h : s.rng ≤ 8388608) : onS b (n + 1) s = onS b n (stepS b s) := by
  show (if s.rng ≤ 8388608 then onS b n (stepS b s) else s) = _
  rw [if_pos h]

/-- One round of going on, in memory. -/
theorem Rd.step {p g : Nat} {bs : List Nat} {t : St} {w : World} (h : Rd p g bs t w) {c r f l v : Int} (hc : c = t.cnt + 8) (hr : r = t.rng * 256) (hf : f = t.front + 1) (hl : l = byteAt bs t.front)
    (hv : v = (256 * t.val + 255 - (256 * t.last + byteAt bs t.front) / 2 % 256) % 2147483648) (_hx : t.last < 256) (_hy : byteAt bs t.front < 256) :
    Rd p g bs (stepS bs t) (((((w.setCell ⟨p, 8, none⟩ (.int .i64 c)).setCell ⟨p, 1, none⟩ (.int .i64 r)).setCell ⟨p, 4, none⟩ (.int .i64 f)).setCell ⟨p, 3, none⟩ (.int .i64 l)).setCell ⟨p, 2, none⟩ (.int .i64 v)) := by
  have h1 := ((((h.setCnt (t.cnt + 8) (v := c) (by omega)).setRng (t.rng * 256) (v := r) (by omega)).setFront (t.front + 1) (v := f) (by omega)).setLast (byteAt bs t.front) (v := l) hl)
  exact h1.setVal ((256 * t.val + 255 - (256 * t.last + byteAt bs t.front) / 2 % 256) % 2147483648) (by rw [hv]; generalize byteAt bs t.front = y at *; omega)

set_option maxHeartbeats 800000 in
theorem goOn_any (p g : Nat) (bs : List Nat) (s : St) (w : World) (h : Rd p g bs s w) (hp : Pre s) (hc : s.cnt ≤ 1000000000000000) :
    Calls Try.prog 29 #[.pointer (some ⟨p, 0, none⟩)] w fun e w' => e = .returned (.tuple #[]) ∧ Rd p g bs (onS bs 3 s) w' ∧ But p w w' := by
  have HE : Hid (∃ E, onS bs 3 s = E) := ⟨_, rfl⟩
  obtain ⟨E, hE⟩ := HE.out
  rw [hE]
  have H0 : Hid (onS bs 3 s = E ∧ 8388608 < s.rng * 256 ^ 3 ∧ Pre s ∧ s.cnt + 8 * 3 ≤ 2000000000000000 ∧ Rd p g bs s w ∧ But p w w) := ⟨hE, by have := hp.low; omega, hp, by omega, h, But.refl _ _⟩
  clear hE h hp hc HE
  go_enter Try.func29, Try.ntmps29
  go_wp2
  go_loopg [] 3 (fun k W => ∃ t, onS bs k t = E ∧ 8388608 < t.rng * 256 ^ k ∧ Pre t ∧ t.cnt + 8 * k ≤ 2000000000000000 ∧ Rd p g bs t W ∧ But p w W)
  case atStart => exact ⟨s, H0.out⟩
  case round =>
    obtain ⟨t, r1, r2, r3, r4, r5, r6⟩ := hrel
    by_cases hlt : t.rng ≤ 8388608
    · obtain ⟨k, rfl⟩ : ∃ k, gk = k + 1 := by
        cases gk with
        | zero => simp at r2; omega
        | succ k => exact ⟨k, rfl⟩
      have hy := r5.bytes t.front
      have H1 : Hid (onS bs k (stepS bs t) = E ∧ 8388608 < (stepS bs t).rng * 256 ^ k ∧ Pre (stepS bs t) ∧ (stepS bs t).cnt + 8 * k ≤ 2000000000000000) := by
        refine ⟨by rw [← r1, onS_step hlt], ?_, stepS_pre r5.bytes r3 hlt, ?_⟩
        · show 8388608 < t.rng * 256 * 256 ^ k
          rw [Nat.pow_succ] at r2
          rw [Nat.mul_assoc, Nat.mul_comm 256]
          exact r2
        · show t.cnt + 8 + 8 * k ≤ _
          omega
      obtain ⟨q1, q2, q3, q4, q5, q6, qf⟩ := r5.fields
      have R5 : Hid (Rd p g bs t wr) := r5
      have v1 := r3.low
      have v2 := r3.high
      have v3 := r3.val
      have v4 := r3.last
      have v5 : t.front ≤ 1000000000000000 := by have := r3.cnt; omega
      obtain ⟨a, n, cap, back, wait, waiting, hrow, hbytes, hgp, hn, _⟩ := r5
      have q0 : wr.cell? ⟨p, 0, none⟩ = some (.slice a n cap) := hrow.cell (i := 0) (by decide)
      have HB : Hid (∀ c r, BytesIn ((wr.setCell ⟨p, 8, none⟩ c).setCell ⟨p, 1, none⟩ r) g a n bs) := fun c r =>
        (hbytes.of_block (fun h0 => Below.heap_setCell _ _ _ _ (hgp h0))).of_block (fun h0 => Below.heap_setCell _ _ _ _ (hgp h0))
      clear hrow hbytes r1 r2 r3
      go_wp2_with (go_at_call 28; refine (fromFront_run p g n cap _ a bs _ (HB.out _ _) hn hgp v5 ?_ ?_ ?_).mono ?_; (· go_simp); (· go_simp); (· go_simp); rintro e w' ⟨rfl, rfl⟩)
      go_roundg k
      case measure => omega
      case rel => exact ⟨stepS bs t, H1.out.1, H1.out.2.1, H1.out.2.2.1, H1.out.2.2.2, R5.out.step rfl rfl rfl rfl rfl v4 hy, ((((r6.set _ _).set _ _).set _ _).set _ _).set _ _⟩
    · have HT : Hid (t = E) := by rw [onS_stop (by omega)] at r1; exact r1
      obtain ⟨q1, q2, q3, q4, q5, q6, qf⟩ := r5.fields
      have R5 : Hid (Rd p g bs t wr) := r5
      clear r1 r2 r3 r5
      go_wp2
      go_end0
      exact ⟨rfl, by rw [← HT.out]; exact R5.out, r6⟩

end Go.Proofs.Ytdbgcbbfnjoebaa
