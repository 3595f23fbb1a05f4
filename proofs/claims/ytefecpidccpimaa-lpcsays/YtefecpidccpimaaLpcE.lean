/- A filter fitted: what package lpc's call comes to. -/
import Derived.Test.YtefecpidccpimaaLpcD
import Derived.Lib.SliceRun
namespace Go.Proofs.Ytefecpidccpimaa
open Go.RowKit

def zset : List Int → Nat → Nat → List Int
  | l, _, 0 => l
  | l, o, k + 1 => zset (l.set o 0) (o + 1) k
theorem zset_len : ∀ (k : Nat) (l : List Int) (o : Nat), (zset l o k).length = l.length
  | 0, _, _ => rfl
  | k + 1, l, o => by show (zset (l.set o 0) (o + 1) k).length = _; rw [zset_len k, List.length_set]
theorem zset_at : ∀ (k : Nat) (l : List Int) (o j : Nat), (zset l o k)[j]?.getD 0 = if o ≤ j ∧ j < o + k then 0 else l[j]?.getD 0
  | 0, l, o, j => by rw [if_neg (by omega)]; rfl
  | k + 1, l, o, j => by
    show (zset (l.set o 0) (o + 1) k)[j]?.getD 0 = _
    rw [zset_at k, List.getElem?_set]
    by_cases h1 : o = j
    · subst h1
      rw [if_neg (by omega), if_pos rfl, show (if o ≤ o ∧ o < o + (k + 1) then (0 : Int) else l[o]?.getD 0) = 0 from if_pos (by omega)]
      split <;> rfl
    · rw [if_neg h1]
      by_cases h2 : o + 1 ≤ j ∧ j < o + 1 + k
      · rw [if_pos h2, if_pos (by omega)]
      · rw [if_neg h2, if_neg (by omega)]
theorem zset_all (l : List Int) : zset l 0 l.length = List.replicate l.length 0 := by
  apply List.ext_getElem
  · rw [zset_len, List.length_replicate]
  · intro i h1 h2
    have h := zset_at l.length l 0 i
    rw [zset_len] at h1
    rw [if_pos (by omega)] at h
    rw [List.getElem_replicate]
    rwa [List.getElem?_eq_getElem (by rw [zset_len]; exact h1)] at h
theorem NewRow.zeros {e : TypeId} {B : Nat} {b : Nat} : ∀ (k : Nat) {w : World} {zs : List Int} (o : Nat), NewRow e B w (some ⟨b, 0, .none⟩) zs → NewRow e B (w.setCells b o (List.replicate k (.int .i64 0))) (some ⟨b, 0, .none⟩) (zset zs o k)
  | 0, _, _, _, h => h
  | k + 1, _, _, o, h => NewRow.zeros k (o + 1) (h.set o 0)
theorem below_zeros {B : Nat} {b : Nat} (hb : B ≤ b) : ∀ (k : Nat) {a w : World} (o : Nat), Below B a w → Below B a (w.setCells b o (List.replicate k (.int .i64 0)))
  | 0, _, _, _, h => h
  | k + 1, _, _, o, h => below_zeros hb k (o + 1) (h.setCell (p := ⟨b, o, none⟩) hb _)

theorem cfit_far (a : Option Addr) (n cap : Nat) (w : World) (hn : 32 < n) :
    Calls Try.prog 12 #[.slice a n cap] w fun e w' => e = .returned (.slice none 0 0) ∧ w' = w := by
  have hn' : ((32 : Int) < n) = True := eq_true (by omega)
  go_enter Try.func12, Try.ntmps12
  go_wp2
  go_ret
  exact ⟨rfl, rfl⟩

theorem zero_run : ∀ w : World, (zeroValue 2).run Try.prog w = .ok (.int .i64 0) w := fun w => by
  obtain ⟨i, hi, hzz⟩ := Option.map_eq_some_iff.1 info_int64
  simp only [Prod.mk.injEq] at hzz
  simp [zeroValue, typeInfo, hi, hzz.1]

set_option maxRecDepth 100000 in
set_option maxHeartbeats 4000000 in
theorem cfit_any (a : Option Addr) (n cap : Nat) (zs : List Int) (w : World) (hz : Zs w a n zs) (hn : n ≤ 32) :
    Calls Try.prog 12 #[.slice a n cap] w fun e w' => ∃ a', e = .returned (.slice a' n n) ∧ NewRow 2 w.heap.size w' a' (fitZ zs) ∧ Below w.heap.size w w' := by
  have hl := hz.len
  have HF : Hid (fitZ zs = fitN 16 1 (zs.map c17)) := fitZ_near (by omega)
  have HL : Hid ((zs.map c17).length = n) := by show _ = _; rw [List.length_map, hl]
  have hn' : ((32 : Int) < n) = False := eq_false (by omega)
  generalize fitZ zs = F at *
  go_enter Try.func12, Try.ntmps12
  go_wp2_with (go_at_call 28; refine (cclampAll_any _ _ _ zs _ hz (by omega)).mono ?_; rintro e w1 ⟨a1, rfl, hn1, hb1⟩)
  generalize zs.map c17 = z0 at *
  have HS : Hid (NewRow 2 w.heap.size w1 a1 z0 ∧ Below w.heap.size w w1) := ⟨hn1, hb1⟩
  clear hz hl hn1 hb1
  go_loopw [3, 4] (fun s k W => ∃ (r : Nat) (a3 : Option Addr) (b : List Int), 1 ≤ r ∧ r ≤ 17 ∧ k = .int .i64 r ∧ s = .slice a3 n n ∧ b.length = n ∧ Hid (fitN (17 - r) r b = F ∧ NewRow 2 w.heap.size W a3 b ∧ Below w.heap.size w W)) (fun _ k _ => 17 - (intOf k).toNat)
  case atStart => exact ⟨1, a1, z0, Nat.le_refl _, by omega, rfl, rfl, HL.out, HF.out.symm, HS.out.1, HS.out.2⟩
  case round =>
    clear HS HF HL
    obtain ⟨r, a3, b, hr1, hr2, rfl, rfl, hbl, HH⟩ := hrel
    have HZ : Hid (∀ W, Below wr.heap.size wr W → Zs W a3 n b) := fun W hW => (Zs.of_new HH.out.2.1 hbl).keep hW
    have HK : Hid (∀ W, Below wr.heap.size wr W → NewRow 2 w.heap.size W a3 b) := fun W hW => HH.out.2.1.keep hW
    have HB := HH.out.2.2
    have HB2 : Hid (∀ W, Below wr.heap.size wr W → Below w.heap.size w W) := fun W hW => HB.trans (hW.mono HB.size)
    have hfit := HH.out.1
    have hr0 := Below.refl wr.heap.size wr
    by_cases hlt : r < 17
    · have hk : ((r : Int) ≤ 16) = True := eq_true (by omega)
      cases hs : stableZ b with
      | true =>
        rw [fitN_yes hs] at hfit
        subst hfit
        clear HH
        have HC : Hid (Calls Try.prog 11 #[.slice a3 n n] wr fun e w' => e = .returned (.bool true) ∧ Below wr.heap.size wr w') := by
          have := cstable_any a3 n n b wr (HZ.out _ hr0) hn
          rwa [hs] at this
        go_wp2_with (go_at_call 11; refine HC.out.mono ?_; rintro e w4 ⟨rfl, hb4⟩)
        go_ret
        exact ⟨_, rfl, HK.out _ hb4, HB2.out _ hb4⟩
      | false =>
        rw [show 17 - r = (17 - (r + 1)) + 1 by omega, fitN_no hs] at hfit
        clear HH
        have HC : Hid (Calls Try.prog 11 #[.slice a3 n n] wr fun e w' => e = .returned (.bool false) ∧ Below wr.heap.size wr w') := by
          have := cstable_any a3 n n b wr (HZ.out _ hr0) hn
          rwa [hs] at this
        go_wp2_with (first
          | (go_at_call 11; refine HC.out.mono ?_; rintro e w4 ⟨rfl, hb4⟩; have hz4 := HZ.out _ hb4)
          | (go_at_call 13; refine (chirp_any _ _ _ b _ _ hz4 hn).mono ?_; rintro e w5 ⟨a5, rfl, hn5, hb5⟩))
        have hb6 := HB2.out _ hb4
        go_roundw
        case rel => exact ⟨r + 1, _, _, by omega, by omega, by go_num, rfl, by rw [chirpL_len, hbl], hfit, hn5.mono hb6.size, hb6.trans (hb5.mono hb6.size)⟩
        case measure => simp [intOf]; omega
    · have hk : ((r : Int) ≤ 16) = False := eq_false (by omega)
      have hr : r = 17 := by omega
      subst hr
      cases hs : stableZ b with
      | true =>
        rw [fitN_yes hs] at hfit
        subst hfit
        clear HH
        have HC : Hid (Calls Try.prog 11 #[.slice a3 n n] wr fun e w' => e = .returned (.bool true) ∧ Below wr.heap.size wr w') := by
          have := cstable_any a3 n n b wr (HZ.out _ hr0) hn
          rwa [hs] at this
        go_wp2_with (go_at_call 11; refine HC.out.mono ?_; rintro e w4 ⟨rfl, hb4⟩)
        go_ret
        exact ⟨_, rfl, HK.out _ hb4, HB2.out _ hb4⟩
      | false =>
        rw [show 17 - 17 = 0 from rfl, fitN_end hs] at hfit
        subst hfit
        have hn0 : 0 < b.length := by
          rcases Nat.eq_zero_or_pos b.length with h | h
          · rw [List.length_eq_zero_iff.1 h] at hs
            cases hs
          · exact h
        obtain ⟨g, rfl, hg1, hg2⟩ := HH.out.2.1.some_of hn0
        have HC : Hid (Calls Try.prog 11 #[.slice (some ⟨g, 0, none⟩) n n] wr fun e w' => e = .returned (.bool false) ∧ Below wr.heap.size wr w') := by
          have := cstable_any (some ⟨g, 0, none⟩) n n b wr (HZ.out _ hr0) hn
          rwa [hs] at this
        have HCL : Hid (∀ W, Below wr.heap.size wr W → ∀ ty, (Builtin.clear_ #[23] ty #[.slice (some ⟨g, 0, none⟩) n n]).run Try.prog W = .ok (.tuple #[]) (W.setCells g 0 (List.replicate n (.int .i64 0)))) := fun W hW ty =>
          Lib.run_clear_slice W _ _ ty (.int .i64 0) Try.underlying23 zero_run rfl rfl g 0 n n (by omega)
            (fun j hj => by rw [Nat.zero_add, (HK.out W hW).cellAt (i := j) (by omega)]; rfl) (fun j _ => by rw [Nat.zero_add]; exact (HK.out W hW).frozenAt hn0 j)
        have HE : Hid (∀ W, Below wr.heap.size wr W → NewRow 2 w.heap.size (W.setCells g 0 (List.replicate n (.int .i64 0))) (some ⟨g, 0, none⟩) (List.replicate b.length 0) ∧ Below w.heap.size w (W.setCells g 0 (List.replicate n (.int .i64 0)))) := fun W hW =>
          ⟨by rw [← zset_all b, hbl]; exact NewRow.zeros n 0 (HK.out W hW), below_zeros hg1 n 0 (HB2.out W hW)⟩
        clear HH
        go_wp2_with (go_at_call 11; refine HC.out.mono ?_; rintro e w4 ⟨rfl, hb4⟩; have hcl := HCL.out _ hb4)
        go_ret
        exact ⟨_, rfl, (HE.out _ hb4).1, (HE.out _ hb4).2⟩

end Go.Proofs.Ytefecpidccpimaa
