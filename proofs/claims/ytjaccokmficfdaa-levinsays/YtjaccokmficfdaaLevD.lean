/- The first table's frequencies that leave the least: the document's own search. -/
import Derived.Test.YtjaccokmficfdaaLevC
import Derived.Test.YtjaccokmficfdaaLsfI
import Derived.Test.YtjaccokmficfdaaLpcV
namespace Go.Proofs.Ytjaccokmficfdaa
namespace Lev
open Go.RowKit

/-- What the i-th of the first table's frequencies leave of a sound, as a power. -/
def leftZ (x : List Int) (n : Nat) (i : Nat) : Int := powI (restL x (fromZ (decodeZ (n : Int) (i : Int) (List.replicate n 0))))
def foundZ (x : List Int) (n : Nat) : Nat := bestN (leftZ x n) 16
theorem leftZ_in (x : List Int) (n i : Nat) : 0 ≤ leftZ x n i ∧ leftZ x n i ≤ 1055531162664960 := powI_in _
theorem plain_good {n i : Nat} (hn : n = 10 ∨ n = 16) (hi : i < 16) : GoodX (n : Int) (i : Int) (List.replicate n 0) := by
  refine ⟨by omega, by omega, by omega, by rw [List.length_replicate], fun x hx => ?_⟩
  obtain rfl := (List.mem_replicate.1 hx).2
  decide

/-- What the search knows behind k of them. -/
def Seen (f : Nat → Int) (k : Nat) (b l : Int) : Prop := (k = 0 ∧ b = 0 ∧ l = -1) ∨ (0 < k ∧ b = (bestN f k : Int) ∧ l = f (bestN f k))
theorem Seen.start (f : Nat → Int) : Seen f 0 0 (-1) := .inl ⟨rfl, rfl, rfl⟩
theorem Seen.better {f : Nat → Int} {k : Nat} {b l : Int} (h : Seen f k b l) (hf : ∀ i, 0 ≤ f i) (hc : l < 0 ∨ f k < l) : Seen f (k + 1) (k : Int) (f k) := by
  right
  rcases h with ⟨rfl, rfl, rfl⟩ | ⟨h1, rfl, rfl⟩
  · refine ⟨Nat.succ_pos _, ?_, ?_⟩
    · rw [bestN_step]
      simp [bestN]
    · rw [bestN_step]
      simp [bestN]
  · have h2 : f k < f (bestN f k) := by
      have := hf (bestN f k)
      omega
    refine ⟨Nat.succ_pos _, ?_, ?_⟩
    · rw [bestN_step, if_pos h2]
    · rw [bestN_step, if_pos h2]
theorem Seen.worse {f : Nat → Int} {k : Nat} {b l : Int} (h : Seen f k b l) (hc : ¬ (l < 0 ∨ f k < l)) : Seen f (k + 1) b l := by
  right
  rcases h with ⟨rfl, rfl, rfl⟩ | ⟨h1, rfl, rfl⟩
  · exact absurd (.inl (by decide)) hc
  · have h2 : ¬ f k < f (bestN f k) := fun h => hc (.inr h)
    refine ⟨Nat.succ_pos _, ?_, ?_⟩
    · rw [bestN_step, if_neg h2]
    · rw [bestN_step, if_neg h2]

set_option maxRecDepth 100000 in
set_option maxHeartbeats 1600000 in
theorem rFound_any (a : Option Addr) (n cap N : Nat) (zs : List Int) (w : World) (hz : Zs w a n zs) (hn : n ≤ 960) (hN : N = 10 ∨ N = 16) :
    Calls Try.prog 21 #[.slice a n cap, .int .i64 N] w fun e w' => e = .returned (.int .i64 ((foundZ zs N : Nat) : Int)) ∧ Below w.heap.size w w' := by
  have HZ : Hid (∀ W, Below w.heap.size w W → Zs W a n zs) := fun W hW => hz.keep hW
  have HN : Hid ((N = 10 ∨ N = 16) ∧ n ≤ 960 ∧ zs.length = n) := ⟨hN, hn, hz.len⟩
  have hmk := fun W : World => run_make_row' (P := Try.prog) 51 3 (.int .i64 0) 8 Try.underlying51 info_int rfl .i64 .i64 N (by omega) (by omega) W
  have HGX : Hid (∀ i : Nat, i < 16 → GoodX (N : Int) (i : Int) (List.replicate N 0)) := fun i hi => plain_good hN hi
  have HP : Hid (∀ i, 0 ≤ leftZ zs N i ∧ leftZ zs N i ≤ 1055531162664960) := leftZ_in zs N
  have HLF : Hid (∀ i : Nat, powI (restL zs (fromZ (decodeZ (N : Int) (i : Int) (List.replicate N 0)))) = leftZ zs N i) := fun _ => rfl
  have HRL : Hid (∀ i : Nat, (fromZ (decodeZ (N : Int) (i : Int) (List.replicate N 0))).length = N) := fun i => by
    show _ = _
    rw [fromZ_len (by rw [decodeZ_len]; omega), decodeZ_len]
    omega
  have HDL : Hid (∀ i : Nat, (decodeZ (N : Int) (i : Int) (List.replicate N 0)).length = N) := fun i => by
    show _ = _
    rw [decodeZ_len]
    omega
  clear hz hn hN
  go_enter Try.func21, Try.ntmps21
  go_wp2
  go_loopw [5, 6, 7] (fun b l i W => ∃ (k : Nat) (bb ll : Int), k ≤ 16 ∧ i = .int .i64 k ∧ b = .int .i64 bb ∧ l = .int .i64 ll ∧ Hid (Seen (leftZ zs N) k bb ll ∧ Below w.heap.size w W)) (fun _ _ i _ => 16 - (intOf i).toNat)
  case atStart => exact ⟨0, 0, -1, Nat.zero_le _, rfl, rfl, rfl, Seen.start _, Below.refl _ _⟩
  case round =>
    obtain ⟨k, bb, ll, hk, rfl, rfl, rfl, HH⟩ := hrel
    by_cases hlt : k < 16
    · obtain ⟨p, hp⟩ : ∃ p, leftZ zs N k = p := ⟨_, rfl⟩
      have HLK : Hid (powI (restL zs (fromZ (decodeZ (N : Int) (k : Int) (List.replicate N 0)))) = p) := (HLF.out k).trans hp
      have hpi := HP.out k
      have HX : Hid (GoodX (N : Int) (k : Int) (List.replicate N 0)) := HGX.out k hlt
      have HLD := HDL.out k
      have HLR := HRL.out k
      obtain ⟨dl, hdl⟩ : ∃ dl, decodeZ (N : Int) (k : Int) (List.replicate N 0) = dl := ⟨_, rfl⟩
      have HDC : Hid (decodeZ (N : Int) (k : Int) (List.replicate N 0) = dl) := hdl
      rw [hdl] at HLK HLD HLR
      clear hdl
      have hb := HH.out.2
      have HSB : Hid ((ll < 0 ∨ p < ll) → Seen (leftZ zs N) (k + 1) (k : Int) p) := fun h => by
        have := HH.out.1.better (fun i => (HP.out i).1) (by rw [hp]; exact h)
        rw [hp] at this
        exact this
      have HSW : Hid (¬ (ll < 0 ∨ p < ll) → Seen (leftZ zs N) (k + 1) bb ll) := fun h => HH.out.1.worse (by rw [hp]; exact h)
      have hsz := hb.size
      clear hp HH
      have HW : Hid (∀ W, Below wr.heap.size wr W → Zs W a n zs) := fun W hW => HZ.out W (hb.trans (hW.mono hsz))
      have HB : Hid (Below w.heap.size w wr) := hb
      have hkI : (k : Int) < 16 := by omega
      have h10 : N = 10 ∧ 5 = 5 ∨ N = 16 ∧ 5 = 8 ∨ N = 10 ∧ 8 = 5 ∨ N = 16 ∧ 8 = 8 := by have := HN.out.1; omega
      have HHALF : Hid (∃ h, N = 10 ∧ h = 5 ∨ N = 16 ∧ h = 8) := by
        rcases HN.out.1 with h | h
        · exact ⟨5, .inl ⟨h, rfl⟩⟩
        · exact ⟨8, .inr ⟨h, rfl⟩⟩
      obtain ⟨hf, hhf⟩ := HHALF.out
      have HHF : Hid (N = 10 ∧ hf = 5 ∨ N = 16 ∧ hf = 8) := hhf
      clear h10 hhf hb hsz
      by_cases hc : ll < 0 ∨ p < ll
      · have HNX := HSB.out hc
        have HNX : Hid (Seen (leftZ zs N) (k + 1) (k : Int) p) := HNX
        clear HSB HSW
        go_wp2_with (first
          | (go_at_call 39; go_loud (refine (rdecode_good (N : Int) (k : Int) _ N N (List.replicate N 0) _ (zs_made _ N rfl) HX.out).mono ?_; rw [HDC.out]; rintro e w1 ⟨a1, c1, rfl, hr1, hb1⟩; have hb2 := ((Below.refl wr.heap.size wr).alloc (Nat.le_refl _) (.cells (madeCells #[.int .i64 0] N) 3)).trans (hb1.mono (by simp)); clear hb1))
          | (go_at_call 38; go_loud (refine (rfrom_any a1 N c1 hf dl _ (Zs.of_new hr1 HLD) HHF.out).mono ?_; rintro e w3 ⟨a3, c3, rfl, hr3, hb3⟩; replace hb2 := hb2.trans (hb3.mono hb2.size); clear hb3))
          | (go_at_call 19; go_loud (refine (rRest_any a a3 n cap N c3 zs (fromZ dl) _ (HW.out _ hb2) (Zs.of_new hr3 HLR) HN.out.2.1 (by have := HN.out.1; omega)).mono ?_; rintro e w4 ⟨a4, c4, rfl, hr4, hb4⟩; replace hb2 := hb2.trans (hb4.mono hb2.size); clear hb4))
          | (go_at_call 20; go_loud (refine (rPower_any a4 n c4 (restL zs (fromZ dl)) _ (Zs.of_new hr4 (by rw [restL_len]; exact HN.out.2.2)) (by have := HN.out.2.1; unfold maxLen; omega)).mono ?_; rw [HLK.out]; rintro e w4 ⟨rfl, rfl⟩)))
        all_goals first
          | (exfalso; omega)
          | (go_roundw
             case rel => exact ⟨k + 1, _, _, by omega, by go_num, rfl, rfl, HNX.out, HB.out.trans (hb2.mono HB.out.size)⟩
             case measure => simp [intOf]; omega)
      · have HNX := HSW.out hc
        have HNX : Hid (Seen (leftZ zs N) (k + 1) bb ll) := HNX
        clear HSB HSW
        have hc1 : ¬ ll < 0 := fun h => hc (.inl h)
        have hc2 : ¬ p < ll := fun h => hc (.inr h)
        clear hc
        go_wp2_with (first
          | (go_at_call 39; go_loud (refine (rdecode_good (N : Int) (k : Int) _ N N (List.replicate N 0) _ (zs_made _ N rfl) HX.out).mono ?_; rw [HDC.out]; rintro e w1 ⟨a1, c1, rfl, hr1, hb1⟩; have hb2 := ((Below.refl wr.heap.size wr).alloc (Nat.le_refl _) (.cells (madeCells #[.int .i64 0] N) 3)).trans (hb1.mono (by simp)); clear hb1))
          | (go_at_call 38; go_loud (refine (rfrom_any a1 N c1 hf dl _ (Zs.of_new hr1 HLD) HHF.out).mono ?_; rintro e w3 ⟨a3, c3, rfl, hr3, hb3⟩; replace hb2 := hb2.trans (hb3.mono hb2.size); clear hb3))
          | (go_at_call 19; go_loud (refine (rRest_any a a3 n cap N c3 zs (fromZ dl) _ (HW.out _ hb2) (Zs.of_new hr3 HLR) HN.out.2.1 (by have := HN.out.1; omega)).mono ?_; rintro e w4 ⟨a4, c4, rfl, hr4, hb4⟩; replace hb2 := hb2.trans (hb4.mono hb2.size); clear hb4))
          | (go_at_call 20; go_loud (refine (rPower_any a4 n c4 (restL zs (fromZ dl)) _ (Zs.of_new hr4 (by rw [restL_len]; exact HN.out.2.2)) (by have := HN.out.2.1; unfold maxLen; omega)).mono ?_; rw [HLK.out]; rintro e w4 ⟨rfl, rfl⟩)))
        all_goals first
          | (exfalso; omega)
          | (go_roundw
             case rel => exact ⟨k + 1, _, _, by omega, by go_num, rfl, rfl, HNX.out, HB.out.trans (hb2.mono HB.out.size)⟩
             case measure => simp [intOf]; omega)
    · obtain rfl : k = 16 := by omega
      have HE : Hid (bb = ((foundZ zs N : Nat) : Int) ∧ Below w.heap.size w wr) := by
        refine ⟨?_, HH.out.2⟩
        rcases HH.out.1 with ⟨h, _⟩ | ⟨_, h, _⟩
        · cases h
        · exact h
      clear HH
      go_wp2
      go_ret
      rw [HE.out.1]
      exact ⟨rfl, HE.out.2⟩

theorem rFound_int (a : Option Addr) (n cap N : Nat) (o : Int) (ho : o = N) (zs : List Int) (w : World) (hz : Zs w a n zs) (hn : n ≤ 960) (hN : N = 10 ∨ N = 16) :
    Calls Try.prog 21 #[.slice a n cap, .int .i64 o] w fun e w' => e = .returned (.int .i64 ((foundZ zs N : Nat) : Int)) ∧ Below w.heap.size w w' := by
  subst ho
  exact rFound_any a n cap N zs w hz hn hN

end Lev
end Go.Proofs.Ytjaccokmficfdaa
