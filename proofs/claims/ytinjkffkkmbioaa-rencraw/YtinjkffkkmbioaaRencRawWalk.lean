/- The law of bits alone answers true. -/
import Derived.Test.YtinjkffkkmbioaaRencC
namespace Go.Proofs.Ytinjkffkkmbioaa
open Go.RowKit

theorem and255 (n : Int) : bits .and .i64 n 255 = n % 256 := and_mask_i64 n 8 (by decide)

/-- The i-th byte. -/
def digN (zs : List Int) (i : Nat) : Nat := ((zs[i]?.getD 0) % 256).toNat
/-- The first k of them, the first one lowest. -/
def sumD (zs : List Int) : Nat → Nat
  | 0 => 0
  | k + 1 => sumD zs k + digN zs k * 256 ^ k

theorem digN_lt (zs : List Int) (i : Nat) : digN zs i < 256 := by unfold digN; omega

theorem sumD_lt (zs : List Int) : ∀ k, sumD zs k < 256 ^ k
  | 0 => by show 0 < 256 ^ 0; decide
  | k + 1 => by
    have h := sumD_lt zs k
    have h2 := digN_lt zs k
    have h3 : (digN zs k + 1) * 256 ^ k ≤ 256 * 256 ^ k := Nat.mul_le_mul_right _ h2
    show sumD zs k + digN zs k * 256 ^ k < 256 ^ (k + 1)
    rw [Nat.pow_succ, Nat.mul_comm (256 ^ k)]
    rw [Nat.add_mul, Nat.one_mul] at h3
    omega

theorem sumD_at (zs : List Int) : ∀ {k i : Nat}, i < k → sumD zs k / 256 ^ i % 256 = digN zs i
  | 0, i, h => absurd h (Nat.not_lt_zero i)
  | k + 1, i, h => by
    have hp : 0 < 256 ^ i := Nat.pow_pos (by decide)
    show (sumD zs k + digN zs k * 256 ^ k) / 256 ^ i % 256 = _
    rcases Nat.lt_or_ge i k with h1 | h1
    · obtain ⟨c, hc⟩ : ∃ c, k = i + 1 + c := ⟨k - i - 1, by omega⟩
      have e : digN zs k * 256 ^ k = 256 * (digN zs k * 256 ^ c) * 256 ^ i := by
        rw [hc, Nat.pow_add, Nat.pow_add, Nat.pow_one]
        generalize digN zs (i + 1 + c) = d
        rw [Nat.mul_comm (256 ^ i * 256), Nat.mul_comm (256 ^ i) 256, ← Nat.mul_assoc, ← Nat.mul_assoc, Nat.mul_comm (d * 256 ^ c) 256]
      rw [e, Nat.add_mul_div_right _ _ hp, Nat.add_mul_mod_self_left]
      exact sumD_at zs h1
    · obtain rfl : i = k := by omega
      rw [Nat.add_mul_div_right _ _ hp, Nat.div_eq_of_lt (sumD_lt zs i), Nat.zero_add]
      exact Nat.mod_eq_of_lt (digN_lt zs i)

theorem bits_digit {b : List Nat} {zs : List Int} {len k : Nat} (h : bitsN b 0 (8 * len) = sumD zs len) (hk : k < len) : bitsN b (8 * k) 8 = digN zs k := by
  have h1 := bitsN_div b 0 (8 * k) (8 * len - 8 * k)
  rw [Nat.zero_add, show 8 * k + (8 * len - 8 * k) = 8 * len by omega, h] at h1
  have h2 := bitsN_mod b (8 * k) 8 (8 * len - 8 * k - 8)
  rw [show 8 + (8 * len - 8 * k - 8) = 8 * len - 8 * k by omega, ← h1, ← pow_256] at h2
  rw [← h2]
  exact sumD_at zs hk

/-- The state of a reader that has read R bits from the end alone, and was S at first. -/
def rawSt (S : St) (R : Nat) : St := { S with raw := R, cnt := 33 + R }

theorem rawSt_zero {S : St} (h3 : S.cnt = 33) (h4 : S.raw = 0) : rawSt S 0 = S := by
  obtain ⟨a, b, c, d, e, f, g⟩ := S
  subst h3 h4
  rfl

theorem rawSt_inv {S : St} (h : Inv S) (hf : S.front = 4) (R : Nat) : Inv (rawSt S R) :=
  ⟨h.low, h.high, h.val, h.last, by show 33 + R = 8 * S.front + 1 + R; omega⟩

theorem rawSt_bits (bs : List Nat) (S : St) (R : Nat) : bitsS bs 8 (rawSt S R) = (bitsN bs R 8, rawSt S (R + 8)) := by
  rw [bitsS, if_pos (by decide)]
  rfl

/-- A writer of k bytes from the end alone. -/
def RawW (zs : List Int) (k : Nat) (s : Es) : Prop := InvE s ∧ Wrote startE (8 * k) (sumD zs k) s ∧ s.cnt ≤ 33 + 8 * k

theorem rawW_zero (zs : List Int) : RawW zs 0 initE := ⟨initE_inv, initE_wrote, by decide⟩

theorem RawW.step {zs : List Int} {k : Nat} {s : Es} (h : RawW zs k s) : RawW zs (k + 1) (bitsE (digN zs k) 8 s) := by
  obtain ⟨h1, h2, h3⟩ := h
  have hd := digN_lt zs k
  refine ⟨bitsE_inv h1 (by decide) hd, ?_, by rw [bitsE_cnt]; omega⟩
  have := bitsE_wrote h2 (digN zs k) 8
  rw [← pow_256] at this
  exact this

theorem RawW.tell {zs : List Int} {k : Nat} {s : Es} (h : RawW zs k s) : tellS s = 1 + 8 * (k : Int) := by
  rw [tellS_is h.2.1, startE_is]
  unfold tellE
  have e : lenN 2147483648 = 32 := by decide
  show 8 * ((3 : Int) + 1) + 1 + ((8 * k : Nat) : Int) - ((lenN 2147483648 : Nat) : Int) = _
  rw [e]
  omega

theorem RawW.back {zs : List Int} {k n : Nat} {s : Es} (h : RawW zs k s) (hn : n ≤ 1275) (ht : tellS s ≤ 8 * (n : Int)) : Ends s n ∧ Bytes (doneL s n) ∧ bitsN (doneL s n) 0 (8 * k) = sumD zs k := by
  have ht2 := ht
  rw [tellS_is h.2.1] at ht2
  obtain ⟨b1, _, b3⟩ := done_back h.1 h.2.1 startE_ok hn ht2
  exact ⟨(ends_of h.1 h.2.1 startE_ok hn ht2).1, b1, b3⟩

set_option maxRecDepth 100000 in
set_option maxHeartbeats 4000000 in
theorem rencRaw.run (a0 : Option Addr) (len cap : Nat) (zs : List Int) (n : Nat) (w : World) (h0 : RowAt w a0 len zs) (k0 : len ≤ 60) (k1 : n ≤ 300) :
    Calls Try.prog 8 #[.slice a0 len cap, .int .i64 n] w fun e w' => e = .returned (.bool true) ∧ Below w.heap.size w w' := by
  have hb := Below.refl w.heap.size w
  have A0 : Hid (∀ W, Below w.heap.size w W → RowAt W a0 len zs) := fun W hW => h0.keep hW (Nat.le_refl _)
  have HS : Hid (∀ p S W, Wd S p initE W → ∃ s, Wd S p s W ∧ RawW zs 0 s) := fun p S W h => ⟨initE, h, rawW_zero zs⟩
  have k0I : (len : Int) ≤ 60 := by omega
  have k1I : (n : Int) ≤ 300 := by omega
  have H0 : Hid (RowAt w a0 len zs) := h0
  clear h0
  go_enter Try.func8, Try.ntmps8
  go_wp2_with (first
    | (go_at_call 9; go_loud (refine (awake_any _).mono ?_; rintro e w1 ⟨rfl, hb1⟩; replace hb := hb.trans (hb1.mono hb.size); clear hb1))
    | (go_at_call 10; go_loud (refine (newE_any _).mono ?_; rintro e w1 ⟨p, S, rfl, he0, hS, hb1⟩; obtain ⟨s, he, hok⟩ := HS.out _ _ _ he0; clear he0; replace hS := fun k hk => Nat.le_trans hb.size (hS k hk); replace hb := hb.trans (hb1.mono hb.size); clear hb1)))
  have HE0 : Hid (RawW zs 0 s ∧ Wd S p s w1 ∧ ∀ k, S k → w.heap.size ≤ k) := ⟨hok, he, hS⟩
  clear hok he hS HS
  go_loopw [6, 7] (fun n i W => Below w.heap.size w W ∧ ∃ (k : Nat) (s : Es) (S : Nat → Prop), k ≤ len ∧ i = .int .i64 k ∧ n = .int .i64 ((8 * k : Nat) : Int) ∧ Hid (RawW zs k s ∧ Wd S p s W ∧ ∀ k, S k → w.heap.size ≤ k)) (fun _ i _ => len - (intOf i).toNat)
  case atStart => exact ⟨hb, 0, s, S, Nat.zero_le _, rfl, rfl, HE0.out⟩
  case round =>
    clear hb HE0
    obtain ⟨hb, k, s, S, hk, rfl, rfl, hr⟩ := hrel
    by_cases hlt : k < len
    · obtain ⟨b, off, rfl, _, hcc⟩ := (A0.out wr hb).2 (by omega)
      have hz := hcc k hlt
      clear hcc
      have hz255 := and255 (zs[k]?.getD 0)
      have HD : Hid ((zs[k]?.getD 0 % 256).toNat = digN zs k) := rfl
      have hr0 : 0 ≤ zs[k]?.getD 0 % 256 ∧ zs[k]?.getD 0 % 256 < 256 := ⟨Int.emod_nonneg _ (by decide), Int.emod_lt_of_pos _ (by decide)⟩
      generalize zs[k]?.getD 0 = z at *
      have HB : Hid (∀ W, Wd S p s W → Calls Try.prog 15 #[.pointer (some ⟨p, 0, none⟩), .int .i64 (z % 256), .int .i64 8] W fun e w' => e = .returned (.int .i64 0) ∧ ∃ S', Wd S' p (bitsE (digN zs k) 8 s) w' ∧ Went S W S' w') := fun W h => by
        rw [← HD.out]
        exact bitsE_int S p s (z % 256) 8 W h hr.out.1.1 ⟨by decide, by decide, hr0.1, by show (z % 256).toNat < 256; omega⟩ (by have := hr.out.1.2.2; omega)
      go_wp2_with (go_at_call 15; go_loud (refine (HB.out _ hr.out.2.1).mono ?_; rintro e w2 ⟨rfl, S2, he2, hw2⟩; have hS2 := hw2.above hr.out.2.2 hb.size; replace hb := hb.trans (hw2.below hr.out.2.2 hb.size); clear hw2))
      go_roundw
      case rel => exact ⟨hb, k + 1, _, S2, by omega, by go_num, by go_num, hr.out.1.step, he2, hS2⟩
      case measure => simp [intOf]; omega
    · obtain rfl : k = len := by omega
      have he : Hid (Wd S p s wr) := hr.out.2.1
      have HW : Hid (RawW zs k s) := hr.out.1
      have HS : Hid (∀ k, S k → w.heap.size ≤ k) := hr.out.2.2
      have HT : Hid (tellS s = 1 + 8 * (k : Int)) := hr.out.1.tell
      have HCN : Hid (s.cnt ≤ 1000) := by have := hr.out.1.2.2; show _ ≤ _; omega
      clear hr
      by_cases htb : 8 * (n : Int) < 1 + 8 * (k : Int)
      · have HT2 : Hid (8 * (n : Int) < tellS s) := by show _ < _; rw [HT.out]; exact htb
        go_wp2_with (first
          | (go_at_call 11; go_loud (refine (tellE_any S p s _ he.out HW.out.1.wide HW.out.1.pre.rhigh (by have := HCN.out; omega)).mono ?_; rw [HT.out]; rintro e w3 ⟨rfl, kk, rfl⟩; have he3 := he.out.drewN kk; replace hb := Below.drewN hb kk))
          | (go_at_call 13; go_loud (refine (doneE_few S p s n _ he3 HW.out.1 (by omega) HT2.out (by have := HCN.out; omega)).mono ?_; rintro e w4 ⟨rfl, k4, rfl⟩; replace hb := Below.drewN hb k4)))
        go_ret
        exact ⟨rfl, by rw [← World.drewN_drewN]; exact hb⟩
      · have HT2 : Hid (tellS s ≤ 8 * (n : Int)) := by show _ ≤ _; rw [HT.out]; omega
        have HK : Hid (Ends s n ∧ Bytes (doneL s n) ∧ bitsN (doneL s n) 0 (8 * k) = sumD zs k) := HW.out.back (by omega) HT2.out
        obtain ⟨bs, hbs⟩ : ∃ bs, doneL s n = bs := ⟨_, rfl⟩
        have HK2 : Hid (Bytes bs ∧ bitsN bs 0 (8 * k) = sumD zs k) := by rw [← hbs]; exact HK.out.2
        obtain ⟨S1, S2, S3, S4, S5⟩ := initS_is bs
        have SI := initS_inv HK2.out.1
        obtain ⟨Q, hQ⟩ : ∃ Q, initS bs = Q := ⟨_, rfl⟩
        rw [hQ] at S2 S3 S4 SI
        have HSS : Hid (∀ p q W, Rd p q bs (initS bs) W → Rd p q bs (rawSt Q 0) W) := fun p q W h => by rw [rawSt_zero S3 S4, ← hQ]; exact h
        have HI : Hid (∀ R, Inv (rawSt Q R)) := rawSt_inv SI S2
        have HBS : Hid (doneL s n = bs) := hbs
        have HAPP : Hid (∀ (S : Nat → Prop) (V : World) pd, (∀ k, S k → k < V.heap.size) → V.heap.size ≤ pd → ¬ S pd) := fun S V pd h1 h2 h3 => by have := h1 pd h3; omega
        clear hbs hQ S1 S2 S3 S4 S5 SI
        go_wp2_with (first
          | (go_at_call 11; go_loud (refine (tellE_any S p s _ he.out HW.out.1.wide HW.out.1.pre.rhigh (by have := HCN.out; omega)).mono ?_; rw [HT.out]; rintro e w3 ⟨rfl, kk, rfl⟩; have he3 := he.out.drewN kk; replace hb := Below.drewN hb kk))
          | (go_at_call 13; go_loud (refine (doneE_any S p s n _ he3 HK.out.1 HT2.out (by have := HCN.out; omega)).mono ?_; rw [HBS.out]; rintro e w4 ⟨a4, cap4, rfl, ho4, hb4⟩; obtain ⟨g4, hag, hg4⟩ := told_arg HK2.out.1 (by omega) ho4; replace hb := hb.trans (hb4.mono hb.size); clear hb4 ho4 hg4))
          | (go_at_call 26; go_loud (refine (new_any g4 a4 n cap4 bs _ hag).mono ?_; rintro e w5 ⟨pd, qd, rfl, hd, hqd, hpd, hb5⟩; replace hd := HSS.out _ _ _ hd; have hqB := Nat.le_trans hb.size (Nat.le_trans hqd hpd); replace hb := hb.trans (hb5.mono hb.size); clear hb5 hag)))
        have HQB : Hid (w.heap.size ≤ pd) := hqB
        go_loopw [11] (fun i W => Below w.heap.size w W ∧ ∃ j : Nat, j ≤ k ∧ i = .int .i64 j ∧ Hid (Rd pd qd bs (rawSt Q (8 * j)) W)) (fun i _ => k - (intOf i).toNat)
        case atStart => exact ⟨hb, 0, Nat.zero_le _, rfl, hd⟩
        case round =>
          clear hb hd
          obtain ⟨hb, j, hj, rfl, hd⟩ := hrel
          by_cases hlt2 : j < k
          · obtain ⟨b, off, rfl, hbl, hcc⟩ := H0.out.2 (by omega)
            have HCE : Hid (∀ W, Below w.heap.size w W → W.cell? ⟨b, off + j, none⟩ = some (.int .i64 (zs[j]?.getD 0))) := fun W hW => (hW.cell (p := ⟨b, off + j, none⟩) hbl).trans (hcc j hlt2)
            have hz255 := and255 (zs[j]?.getD 0)
            have hdg : bitsN bs (8 * j) 8 = digN zs j := bits_digit HK2.out.2 hlt2
            have hr0 : 0 ≤ zs[j]?.getD 0 % 256 := Int.emod_nonneg _ (by decide)
            have hde : ((digN zs j : Nat) : Int) = zs[j]?.getD 0 % 256 := by unfold digN; omega
            have HDE : Hid (((bitsN bs (8 * j) 8 : Nat) : Int) = zs[j]?.getD 0 % 256) := by show _ = _; rw [hdg, hde]
            generalize zs[j]?.getD 0 = z at *
            have hcl := HCE.out wr hb
            replace hb := hb.drew
            replace hd : Rd pd qd bs (rawSt Q (8 * j)) wr.drew := hd.out.drew
            have hcl2 : wr.drew.cell? ⟨b, off + j, none⟩ = some (.int .i64 z) := hcl
            have HCN2 : Hid ((rawSt Q (8 * j)).cnt ≤ 1000000000000000) := by show 33 + 8 * j ≤ _; omega
            clear hdg hde hcc
            go_wp2
            go_region_held3 (fun W => W.cell? ⟨b, off + j, none⟩ = some (.int .i64 z)) (first | assumption | go_keep) (first
              | (go_at_call 27; go_loud (refine (bits_any pd qd bs (rawSt Q (8 * j)) 8 _ hd (HI.out _) HCN2.out).mono ?_; rw [rawSt_bits bs Q (8 * j), HDE.out]; rintro e w6 ⟨rfl, hd', hb6⟩; replace hd := hd'; replace hb := hb.trans (hb6.below HQB.out); have hcl3 := HCE.out _ hb; clear hd' hb6)))
            all_goals
              go_wp2
              go_roundw
              case rel => exact ⟨hb, j + 1, by omega, by go_num, hd⟩
              case measure => simp [intOf]; omega
          · go_wp2
            go_ret
            exact ⟨rfl, hb⟩

theorem rencRaw.walk (a0 : Option Addr) (len cap : Nat) (z0 : List Int) (n : Int) (w : World) (h0 : IsRow .i64 w a0 len cap z0) (h1 : (Lit.int .i64 n).wf = true) :
    Calls Try.prog 8 #[.slice a0 len cap, .int .i64 n] w fun e w' => e = .returned (.bool true) ∧ Below w.heap.size w w' := by
  have hb := Below.refl w.heap.size w
  have hl := row_len h0
  have hn := bounds_i64 h1
  by_cases k0 : len ≤ 60
  · by_cases k1 : 0 ≤ n ∧ n ≤ 300
    · obtain ⟨m, rfl⟩ := Int.eq_ofNat_of_zero_le k1.1
      exact rencRaw.run a0 len cap _ m w (row_at h0).1 k0 (by omega)
    · clear h0 h1
      by_cases k2 : n < 0
      · go_enter Try.func8, Try.ntmps8
        go_wp2_with (go_at_call 9; refine (awake_any _).mono ?_; rintro e w1 ⟨rfl, hb1⟩; replace hb := hb.trans (hb1.mono hb.size); clear hb1)
        go_ret
        exact ⟨rfl, hb⟩
      · have k3 : 300 < n := by omega
        clear k1
        go_enter Try.func8, Try.ntmps8
        go_wp2_with (go_at_call 9; refine (awake_any _).mono ?_; rintro e w1 ⟨rfl, hb1⟩; replace hb := hb.trans (hb1.mono hb.size); clear hb1)
        go_ret
        exact ⟨rfl, hb⟩
  · have k0I : (60 : Int) < (len : Int) := by omega
    clear h0 h1
    go_enter Try.func8, Try.ntmps8
    go_wp2_with (go_at_call 9; refine (awake_any _).mono ?_; rintro e w1 ⟨rfl, hb1⟩; replace hb := hb.trans (hb1.mono hb.size); clear hb1)
    go_ret
    exact ⟨rfl, hb⟩

end Go.Proofs.Ytinjkffkkmbioaa
