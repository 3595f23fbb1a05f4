/- Package gain, a table written. -/
import Derived.Test.YtnmfbjpbhghgaaaDoorGainF
namespace Go.Proofs.YtnmfbjpbhghgaaaDoor
open Go.RowKit

/-- What lies from B up to C, where nothing of the writer's lies, is as it was. -/
theorem Went.betweenS {S S' : Nat → Prop} {B C : Nat} {w w' : World} (h : Went S w S' w') (hS : ∀ k, S k → k < B) (hC : C ≤ w.heap.size) : ∀ k, B ≤ k → k < C → w'.heap[k]? = w.heap[k]? := fun k h1 h2 => h.block k (by omega) (fun e => by have := hS k e; omega)

set_option maxRecDepth 100000 in
set_option maxHeartbeats 3200000 in
theorem writeAll_any (S : Nat → Prop) (p : Nat) (s : Es) (a al : Option Addr) (n cap : Nat) (xs : List Wr) (vs : List Int) (B C : Nat) (w : World) (h : Wd S p s w) (hi : InvE s) (hc : s.cnt ≤ 1000000000000) (ht : TableAt B C w a n xs) (hr : RowAt w al n vs)
    (hrB : ∀ b off, al = some ⟨b, off, none⟩ → 0 < n → B ≤ b ∧ b < C) (hv : xs.map (·.v) = vs) (hok : ∀ x ∈ xs, okX x) (hS : ∀ k, S k → k < B) (hC : C ≤ w.heap.size) :
    Calls Tryd.prog 34 #[.pointer (some ⟨p, 0, none⟩), .slice a n n, .slice al n cap] w fun e w' => e = .returned (.tuple #[]) ∧ ∃ S', Wd S' p (putsX xs s) w' ∧ Went S w S' w' := by
  have hn2 : n ≤ 2 := ht.2.1
  have HT : Hid (TableAt B C w a n xs) := ht
  obtain ⟨b, rfl, hbB, hbC⟩ : ∃ b, a = some ⟨b, 0, none⟩ ∧ B ≤ b ∧ b < C := by obtain ⟨_, _, b, h1, h2, h3, _⟩ := ht; exact ⟨b, h1, h2, h3⟩
  have HX : Hid (xs.length = n) := ht.1
  have HI : Hid (∀ m, m ≤ n → InvE (putsX (xs.take m) s) ∧ (putsX (xs.take m) s).cnt ≤ 1000000001000) := fun m hm => by
    obtain ⟨h1, h2⟩ := putsX_inv (xs.take m) s (fun x hx => hok x (List.mem_of_mem_take hx)) hi
    rw [List.length_take] at h2
    exact ⟨h1, by omega⟩
  have HK : Hid (∀ x ∈ xs, okX x) := hok
  have HS : Hid (∀ k, S k → k < B) := hS
  have HR : Hid (RowAt w al n vs ∧ ∀ b off, al = some ⟨b, off, none⟩ → 0 < n → B ≤ b ∧ b < C) := ⟨hr, hrB⟩
  have HV : Hid (xs.map (·.v) = vs) := hv
  have H0 : Hid (Wd S p (putsX (xs.take 0) s) w ∧ Went S w S w) := ⟨h, Went.refl _ _⟩
  clear h ht hr hrB hv hok hS
  go_enter Tryd.func34, Tryd.ntmps34
  go_wp2
  go_loopw [6, 7, 10] (fun _ _ k W => ∃ (m : Nat) (S' : Nat → Prop), m ≤ n ∧ k = .int .i64 m ∧ Hid (Wd S' p (putsX (xs.take m) s) W ∧ Went S w S' W)) (fun _ _ k _ => n - (intOf k).toNat)
  case atStart => exact ⟨0, S, Nat.zero_le _, rfl, H0⟩
  case round =>
    clear H0
    obtain ⟨m, S', hm, rfl, HW⟩ := hrel
    by_cases hlt : m < n
    · obtain ⟨x, hx⟩ : ∃ x, xs[m]? = some x := ⟨_, List.getElem?_eq_getElem (by rw [HX.out]; exact hlt)⟩
      have hsame := HW.out.2.betweenS HS.out hC
      have hsz := HW.out.2.size
      obtain ⟨_, _, b', hbe, _, _, hent⟩ := HT.out.same hsz hsame (Nat.le_refl C)
      cases hbe
      obtain ⟨v1, v2, hc1, hc2, he⟩ := hent m x hx
      obtain ⟨bl, ol, rfl, hbl, hcl⟩ := (HR.out.1.same hsz (fun b off ha h0 => hsame b (HR.out.2 b off ha h0).1 (HR.out.2 b off ha h0).2)).2 (by omega)
      have hcm := hcl m hlt
      have hvm : vs[m]?.getD 0 = x.v := by rw [← HV.out, List.getElem?_map, hx]; rfl
      rw [hvm] at hcm
      have HB : Hid (Below wr.heap.size wr (wr.alloc (.cells #[v1, v2] 84))) := (Below.refl _ _).alloc (Nat.le_refl _) _
      have HWD : Hid (Wd S' p (putsX (xs.take m) s) (wr.alloc (.cells #[v1, v2] 84))) := HW.out.1.keep HB.out
      have he2 := he.same HB.out.size (fun k h1 h2 => HB.out.block k (by omega)) (Nat.le_refl C)
      have hcm2 : (wr.alloc (.cells #[v1, v2] 84)).cell? ⟨bl, ol + m, none⟩ = some (.int .i64 x.v) := (HB.out.cell (p := ⟨bl, ol + m, none⟩) hbl).trans hcm
      have HE2 : Hid (putsX (xs.take (m + 1)) s = putX x (putsX (xs.take m) s)) := putsX_step xs s m x hx
      have HNEXT : Hid (∀ (w1 : World) (S1 : Nat → Prop), Wd S1 p (putX x (putsX (xs.take m) s)) w1 → Went S' (wr.alloc (.cells #[v1, v2] 84)) S1 w1 → Wd S1 p (putsX (xs.take (m + 1)) s) w1 ∧ Went S w S1 w1) := fun w1 S1 h1 h2 =>
        ⟨by rw [HE2.out]; exact h1, (HW.out.2.alloc _).trans h2⟩
      obtain ⟨hinv, hcnt⟩ := HI.out m hm
      have hokx := HK.out x (List.mem_of_getElem? hx)
      have HOK : Hid (okX x) := hokx
      clear HW HT hent he hcl hcm hsame hvm hokx HX hx HR HV
      generalize putsX (xs.take m) s = t at *
      obtain ⟨xv, hxv⟩ : ∃ xv, x.v = xv := ⟨_, rfl⟩
      rw [hxv] at hcm2
      rcases he2 with ⟨b1, b2, b3, _, _, _, hop, a, na, cap2, rfl, rfl, k1, k2, k3, k4, _, k6⟩ | ⟨b1, b2, b3, _, _, _, hop, rfl, rfl, k1, k2, k3⟩
      · have HP : Hid (symOk x.t xv ∧ putX x t = takeE t (symFl x.t xv.toNat) (symFh x.t xv.toNat) 256) := by
          refine ⟨?_, by unfold putX; rw [if_pos hop, hxv]⟩
          rcases HOK.out with ⟨_, h⟩ | ⟨h, _⟩
          · rw [← hxv]; exact h
          · omega
        have hs1 := fun (a : Addr) (c : Array Value) (w : World) => run_store Tryd.prog w a (.func (.func 71) #[] c) .plain rfl
        have hs2 := fun (a : Addr) (c : Array Value) (w : World) => run_store Tryd.prog w a (.func (.func 72) #[] c) .plain rfl
        clear hop hxv HOK
        go_wp2
        go_region_with (go_at_call 72; go_loud (refine (writeSym_any S' p t xv b2 b3 a na cap2 x.t _ (HWD.out.drewN _) hinv (by omega) k4 k6 HP.out.1 k2 k3).mono ?_; rintro e w1 ⟨rfl, S1, hd1, hw1⟩))
        all_goals
          have hE := HNEXT.out _ _ (by rw [HP.out.2]; exact hd1) (((Went.refl S' _).drewN _).trans hw1)
          clear HNEXT hd1 hw1
          go_wp2
          go_roundw
          case rel => exact ⟨m + 1, S1, by omega, by go_num, hE⟩
          case measure => simp [intOf]; omega
      · have HP : Hid ((1 ≤ x.n ∧ x.n ≤ 4294967295 ∧ 0 ≤ xv ∧ xv < x.n) ∧ putX x t = uintEs xv.toNat x.n.toNat t) := by
          refine ⟨?_, by unfold putX; rw [if_neg (by omega), hxv]⟩
          rcases HOK.out with ⟨h, _⟩ | ⟨_, h⟩
          · omega
          · rw [← hxv]; exact h
        have hs1 := fun (a : Addr) (c : Array Value) (w : World) => run_store Tryd.prog w a (.func (.func 77) #[] c) .plain rfl
        have hs2 := fun (a : Addr) (c : Array Value) (w : World) => run_store Tryd.prog w a (.func (.func 78) #[] c) .plain rfl
        clear hop hxv HOK
        go_wp2
        go_region_with (go_at_call 78; go_loud (refine (writeUint_any S' p t xv b2 b3 x.n _ (HWD.out.drewN _) hinv (by omega) HP.out.1 k2 k3).mono ?_; rintro e w1 ⟨rfl, S1, hd1, hw1⟩))
        all_goals
          have hE := HNEXT.out _ _ (by rw [HP.out.2]; exact hd1) (((Went.refl S' _).drewN _).trans hw1)
          clear HNEXT hd1 hw1
          go_wp2
          go_roundw
          case rel => exact ⟨m + 1, S1, by omega, by go_num, hE⟩
          case measure => simp [intOf]; omega
    · obtain rfl : m = n := by omega
      go_wp2
      go_end0
      refine ⟨rfl, S', ?_, HW.out.2⟩
      have := HW.out.1
      rw [List.take_of_length_le (by have := HX.out; omega)] at this
      exact this

end Go.Proofs.YtnmfbjpbhghgaaaDoor
