/- The program's reader: numbers that are mostly small. -/
import Derived.Test.YtfdfknfbnbeloaaRcD
namespace Go.Proofs.Ytfdfknfbnbeloaa
open Go.RowKit

theorem mul_dec (a decay : Nat) (h : decay ≤ 16384) : a * decay / 32768 * 2 ≤ a := by
  have h1 : a * decay ≤ a * 16384 := Nat.mul_le_mul_left _ h
  generalize a * decay = z at *
  omega

theorem cast_next (s decay : Nat) (h : 1 < s) : ((s : Int) * 2 - 2) * decay / 32768 + 1 = (((2 * s - 2) * decay / 32768 + 1 : Nat) : Int) := by
  have e : ((s : Int) * 2 - 2) = ((2 * s - 2 : Nat) : Int) := by omega
  rw [e, ← Int.natCast_mul]
  generalize (2 * s - 2) * decay = z
  omega

/-- How it goes in: what lapF keeps. -/
abbrev LapIn (f l s v : Nat) : Prop := l ≤ f ∧ 1 ≤ s ∧ s ≤ 20000 ∧ v ≤ l

set_option maxHeartbeats 1600000 in
theorem laplace_any (f fs decay : Nat) (w : World) (hf : f < 32768) (h1 : 256 ≤ fs) (h2 : fs ≤ 28000) (h3 : decay ≤ 16000) :
    Calls Try.prog 37 #[.int .i64 f, .int .i64 fs, .int .i64 decay] w fun e w' => (∃ l s : Nat, e = .returned (.tuple #[.int .i64 (lapAll fs decay f).1, .int .i64 l, .int .i64 s]) ∧ l = (lapAll fs decay f).2.1 ∧ l + s = (lapAll fs decay f).2.2 ∧ l + s ≤ 100000) ∧ w' = w := by
  by_cases hlt : f < fs
  · have e : lapAll fs decay f = (0, 0, fs) := by rw [lapAll, if_pos hlt]
    rw [e]
    clear e
    go_enter Try.func37, Try.ntmps37
    go_wp2
    go_ret3
    exact ⟨⟨0, fs, rfl, rfl, Nat.zero_add _, by omega⟩, rfl⟩
  · obtain ⟨s0, hs0⟩ : ∃ s0, s0 = (32736 - fs) * (16384 - decay) / 32768 + 1 := ⟨_, rfl⟩
    have e : lapAll fs decay f = lapEnd f (lapF f decay 32768 fs s0 1) := by rw [lapAll, if_neg hlt, hs0]
    rw [e]
    clear e
    have hs1 : s0 ≤ 20000 := by
      have := mul_dec (32736 - fs) (16384 - decay) (by omega)
      omega
    have hs2 : 1 ≤ s0 := by omega
    have ES : Hid (((32736 : Int) - fs) * (16384 - decay) / 32768 + 1 = (s0 : Nat)) := by
      show _ = _
      rw [hs0, Int.natCast_add, Int.natCast_ediv, Int.natCast_mul, Int.ofNat_sub (by omega), Int.ofNat_sub (by omega)]
      rfl
    have p0 : 0 ≤ ((32736 : Int) - fs) * (16384 - decay) := Int.mul_nonneg (by omega) (by omega)
    have p1 : ((32736 : Int) - fs) * (16384 - decay) ≤ 32736 * 16384 := Int.mul_le_mul (by omega) (by omega) (by omega) (by decide)
    clear hs0
    have HR : Hid (∃ R, lapF f decay 32768 fs s0 1 = R) := ⟨_, rfl⟩
    obtain ⟨R, hR⟩ := HR.out
    rw [hR]
    have H0 : Hid (∃ K, lapF f decay K fs s0 1 = R ∧ f ≤ fs + K) := ⟨32768, hR, by omega⟩
    clear hR HR
    obtain ⟨K, hK⟩ := H0.out
    have HK : Hid (lapF f decay K fs s0 1 = R ∧ f ≤ fs + K) := hK
    clear hK H0
    go_enter Try.func37, Try.ntmps37
    go_wp2
    go_loopg [6, 7, 8] K (fun k v l s W => W = w ∧ ∃ l' s' v' : Nat, l = .int .i64 l' ∧ s = .int .i64 s' ∧ v = .int .i64 v' ∧ lapF f decay k l' s' v' = R ∧ f ≤ l' + k ∧ LapIn f l' s' v')
    case atStart => exact ⟨rfl, fs, s0, 1, rfl, by rw [← ES.out], rfl, HK.out.1, HK.out.2, by omega, hs2, hs1, by omega⟩
    case round =>
      obtain ⟨rfl, l, s, v, rfl, rfl, rfl, r1, r2, r3, r4, r5, r6⟩ := hrel
      by_cases hc : 1 < s ∧ l + 2 * s ≤ f
      · obtain ⟨k, rfl⟩ : ∃ k, gk = k + 1 := ⟨gk - 1, by omega⟩
        rw [lapF_step hc] at r1
        have HR : Hid (lapF f decay k (l + 2 * s) ((2 * s - 2) * decay / 32768 + 1) (v + 1) = R) := r1
        have hd := mul_dec (2 * s - 2) decay (by omega)
        have ED : Hid (((s : Int) * 2 - 2) * decay / 32768 + 1 = ((2 * s - 2) * decay / 32768 + 1 : Nat)) := cast_next s decay hc.1
        have q0 : 0 ≤ ((s : Int) * 2 - 2) * decay := Int.mul_nonneg (by omega) (by omega)
        have q1 : ((s : Int) * 2 - 2) * decay ≤ 40000 * 16000 := Int.mul_le_mul (by omega) (by omega) (by omega) (by decide)
        obtain ⟨hc1, hc2⟩ := hc
        clear r1
        go_wp2
        go_roundg k
        case measure => omega
        case rel => exact ⟨rfl, l + 2 * s, _, v + 1, by go_num, by rw [← ED.out], by go_num, HR.out, by omega, by omega, by omega, by omega, by omega⟩
      · rw [lapF_stop gk hc] at r1
        have HR : Hid (R = (l, s, v)) := r1.symm
        clear r1
        by_cases hs : s ≤ 1
        · obtain rfl : s = 1 := by omega
          have HE : Hid (lapEnd f R = if f < l + 2 * ((f - l) / 2) + 1 then (-((v + (f - l) / 2 : Nat) : Int), l + 2 * ((f - l) / 2), l + 2 * ((f - l) / 2) + 1) else (((v + (f - l) / 2 : Nat) : Int), l + 2 * ((f - l) / 2) + 1, l + 2 * ((f - l) / 2) + 1 + 1)) := by
            show _ = _
            rw [HR.out]; rfl
          by_cases hx : f < l + 2 * ((f - l) / 2) + 1
          · have hx2 : (f : Int) < (l : Int) + 2 * (((f : Int) - l) / 2) + 1 := by omega
            go_wp2
            go_ret3
            rw [HE.out, if_pos hx]
            exact ⟨⟨l + 2 * ((f - l) / 2), 1, by simp; omega, rfl, rfl, by omega⟩, rfl⟩
          · have hx2 : ¬ (f : Int) < (l : Int) + 2 * (((f : Int) - l) / 2) + 1 := by omega
            go_wp2
            go_ret3
            rw [HE.out, if_neg hx]
            exact ⟨⟨l + 2 * ((f - l) / 2) + 1, 1, by simp; omega, rfl, rfl, by omega⟩, rfl⟩
        · have HE : Hid (lapEnd f R = if f < l + s then (-(v : Int), l, l + s) else ((v : Int), l + s, l + s + s)) := by
            show _ = _
            rw [HR.out, lapEnd]
            simp only
            rw [if_neg hs, if_neg hs]
          have hc3 : ¬ (l : Int) + 2 * s ≤ f := by omega
          have hc4 : 1 < s := by omega
          by_cases hx : f < l + s
          · go_wp2
            go_ret3
            rw [HE.out, if_pos hx]
            exact ⟨⟨l, s, rfl, rfl, rfl, by omega⟩, rfl⟩
          · go_wp2
            go_ret3
            rw [HE.out, if_neg hx]
            exact ⟨⟨l + s, s, by simp, rfl, rfl, by omega⟩, rfl⟩

end Go.Proofs.Ytfdfknfbnbeloaa
