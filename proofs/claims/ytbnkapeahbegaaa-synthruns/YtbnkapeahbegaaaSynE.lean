/- What repeats, what the filter makes: package synth's two sums. -/
import Derived.Test.YtbnkapeahbegaaaSynB
namespace Go.Proofs.Ytbnkapeahbegaaa
open Go.RowKit

theorem lagsN_from (p : PartP) (R : List Int) (b : Int) : ∀ k, lagsN p R b k = b + lagsN p R 0 k
  | 0 => by show b = b + 0; omega
  | k + 1 => by
    show lagsN p R b k + _ = b + (lagsN p R 0 k + _)
    rw [lagsN_from p R b k]
    omega
theorem filtN_from (p : PartP) (O : List Int) (b : Int) : ∀ k, filtN p O b k = b + filtN p O 0 k
  | 0 => by show b = b + 0; omega
  | k + 1 => by
    show filtN p O b k + _ = b + (filtN p O 0 k + _)
    rw [filtN_from p O b k]
    omega
theorem pastI_reverse {zs : List Int} {n k : Nat} (hl : zs.length = n) (h1 : 1 ≤ k) (h2 : k ≤ n) : pastI zs.reverse k = zs[n - k]?.getD 0 := by
  unfold pastI
  rw [List.getElem?_reverse (by omega), hl, show n - 1 - (k - 1) = n - k by omega]

theorem idx_five (t0 t1 t2 t3 t4 : Int) (k : Nat) (hk : k < 5) (W : World) : (Instr.index 29 (.agg #[.int .i64 t0, .int .i64 t1, .int .i64 t2, .int .i64 t3, .int .i64 t4]) (.int .i64 (k : Int))).run Try.prog W = .ok (.int .i64 ([t0, t1, t2, t3, t4][k]?.getD 0)) W := by
  match k, hk with
  | 0, _ => (show _ = _; kernel_rfl)
  | 1, _ => (show _ = _; kernel_rfl)
  | 2, _ => (show _ = _; kernel_rfl)
  | 3, _ => (show _ = _; kernel_rfl)
  | 4, _ => (show _ = _; kernel_rfl)

set_option maxRecDepth 100000 in
set_option maxHeartbeats 1000000 in
theorem filtered_any (a : Option Addr) (n cap : Nat) (zs : List Int) (fa : Option Addr) (fn fcap : Nat) (p : PartP) (w : World) (hz : Zs w a n zs) (hf : Zs w fa fn p.filt) (h32 : 32 ≤ n) (hn : n ≤ 1000) (hp : p.Fine) (ht : Tame zs.reverse) :
    Calls Try.prog 23 #[.slice a n cap, .slice fa fn fcap] w fun e w' => e = .returned (.int .i64 (filtN p zs.reverse 0 fn)) ∧ w' = w := by
  have hfl := hf.len
  have h5 := hp.flen
  obtain ⟨b, off, rfl, _, hc⟩ := hz.at_ (by omega)
  have HC : Hid (∀ k, k < fn → ∃ x : Int, filtN p zs.reverse 0 (k + 1) = filtN p zs.reverse 0 k + mulI (p.filt[k]?.getD 0) x 12 ∧ w.cell? ⟨b, off + (n - 1 - k), none⟩ = some (.int .i64 x)) := fun k hk => by
    refine ⟨zs[n - 1 - k]?.getD 0, ?_, hc _ (by omega)⟩
    show filtN p zs.reverse 0 k + mulI _ (pastI zs.reverse (k + 1)) 12 = _
    rw [pastI_reverse hz.len (by omega) (by omega), show n - (k + 1) = n - 1 - k by omega]
  have HZ : Hid (0 < fn → ∃ b2 o2, fa = some ⟨b2, o2, none⟩ ∧ ∀ i, i < fn → w.cell? ⟨b2, o2 + i, none⟩ = some (.int .i64 (p.filt[i]?.getD 0))) := fun h => by
    obtain ⟨b2, o2, e, _, hc2⟩ := hf.at_ h
    exact ⟨b2, o2, e, hc2⟩
  have HB : Hid (∀ k, k ≤ fn → -17179869184 ≤ filtN p zs.reverse 0 k ∧ filtN p zs.reverse 0 k ≤ 17179869184) := fun k hk => by
    have := filtN_in hp ht 0 k
    omega
  have hfn : fn ≤ 32 := by omega
  clear hz hf hc hp ht hfl h5
  generalize hF : filtN p zs.reverse 0 = F at *
  have HF0 : Hid (F 0 = 0) := by show _ = _; rw [← hF]; rfl
  clear hF
  go_enter Try.func23, Try.ntmps23
  go_wp2
  go_loop [5, 7, 8, 14] (fun s _ _ i => ∃ (k : Nat) (v : Int), k ≤ fn ∧ i = .int .i64 k ∧ s = .int .i64 v ∧ Hid (v = F k)) (fun _ _ _ i => fn - (intOf i).toNat)
  case atStart => exact ⟨0, 0, Nat.zero_le _, rfl, rfl, HF0.out.symm⟩
  case round =>
    obtain ⟨k, v, hk, rfl, rfl, HV⟩ := hrel
    by_cases hlt : k < fn
    · obtain ⟨b2, o2, rfl, hc2⟩ := HZ.out (by omega)
      have hck := hc2 k hlt
      obtain ⟨x, hst, hcx⟩ := HC.out k hlt
      have hb1 := HB.out k hk
      have hb2 := HB.out (k + 1) hlt
      generalize p.filt[k]?.getD 0 = t at *
      obtain ⟨y, hy⟩ : ∃ y, mulI t x 12 = y := ⟨_, rfl⟩
      rw [hy, ← HV.out] at hst
      rw [← HV.out] at hb1
      rw [hst] at hb2
      have HM : Hid (∀ W, Calls Try.prog 25 #[.int .i64 t, .int .i64 x, .int .i64 12] W fun e w' => e = .returned (.int .i64 y) ∧ w' = W) := fun W => by rw [← hy]; exact mul_any _ _ _ _
      have HN : Hid (v + y = F (k + 1)) := hst.symm
      obtain ⟨j, hj⟩ : ∃ j : Nat, n - 1 - k = j := ⟨_, rfl⟩
      rw [hj] at hcx
      have e1 : IntKind.i64.wrap ((n : Int) - 1 - (k : Int)) = (j : Int) := by rw [IntKind.wrap_i64]; omega
      have e2 : wrap64 ((n : Int) - 1 - (k : Int)) = (j : Int) := by unfold wrap64; omega
      have e3 : ((n : Int) - 1 - (k : Int)) = (j : Int) := by omega
      have hjn : j < n := by omega
      clear hst hc2 hy HV HC HB HZ HF0 hj
      go_wp2_with (go_at_call 25; refine (HM.out _).mono ?_; rintro e w' ⟨rfl, rfl⟩)
      go_round
      case rel => exact ⟨k + 1, _, by omega, by go_num, rfl, HN.out⟩
      case measure => simp [intOf]; omega
    · obtain rfl : k = fn := by omega
      go_wp2
      go_ret
      exact ⟨ret_int HV.out, rfl⟩

set_option maxRecDepth 100000 in
set_option maxHeartbeats 1000000 in
theorem repeated_none (a : Option Addr) (n cap : Nat) (pa : Option Addr) (pn pcap : Nat) (loud t0 t1 t2 t3 t4 : Int) (fa : Option Addr) (fn fcap : Nat) (w : World) :
    Calls Try.prog 22 #[.slice a n cap, .agg #[.slice pa pn pcap, .int .i64 loud, .int .i64 0, .int .i64 t0, .int .i64 t1, .int .i64 t2, .int .i64 t3, .int .i64 t4, .slice fa fn fcap]] w fun e w' => e = .returned (.int .i64 0) ∧ Below w.heap.size w w' := by
  have hB : Hid (Below w.heap.size w (w.alloc (.cells #[.slice pa pn pcap, .int .i64 loud, .int .i64 0, .int .i64 t0, .int .i64 t1, .int .i64 t2, .int .i64 t3, .int .i64 t4, .slice fa fn fcap] 31))) := (Below.refl _ _).alloc (Nat.le_refl _) _
  go_enter Try.func22, Try.ntmps22
  go_wp2
  go_ret
  exact ⟨rfl, hB.out⟩

set_option maxRecDepth 100000 in
set_option maxHeartbeats 2000000 in
theorem repeated_some (a : Option Addr) (n cap : Nat) (zs : List Int) (pa : Option Addr) (pn pcap : Nat) (loud t0 t1 t2 t3 t4 : Int) (fa : Option Addr) (fn fcap : Nat) (f : List Int) (L : Nat) (w : World) (hz : Zs w a n zs) (h320 : 320 ≤ n) (hn : n ≤ 1000) (hL : 3 ≤ L) (hL2 : L ≤ 318) (hp : PartP.Fine ⟨loud, L, [t0, t1, t2, t3, t4], f⟩) (ht : Tame zs.reverse) :
    Calls Try.prog 22 #[.slice a n cap, .agg #[.slice pa pn pcap, .int .i64 loud, .int .i64 (L : Int), .int .i64 t0, .int .i64 t1, .int .i64 t2, .int .i64 t3, .int .i64 t4, .slice fa fn fcap]] w fun e w' => e = .returned (.int .i64 (lagsN ⟨loud, L, [t0, t1, t2, t3, t4], f⟩ zs.reverse 0 5)) ∧ Below w.heap.size w w' := by
  obtain ⟨P, hP⟩ : ∃ P : PartP, P = ⟨loud, L, [t0, t1, t2, t3, t4], f⟩ := ⟨_, rfl⟩
  rw [← hP] at hp ⊢
  have HB : Hid (∀ d, Below w.heap.size w ((w.alloc (.cells #[.slice pa pn pcap, .int .i64 loud, .int .i64 (L : Int), .int .i64 t0, .int .i64 t1, .int .i64 t2, .int .i64 t3, .int .i64 t4, .slice fa fn fcap] 31)).drewN d)) := fun d => below_drewN ((Below.refl _ _).alloc (Nat.le_refl _) _) d
  obtain ⟨b, off, rfl, _, hc⟩ := (hz.alloc (.cells #[.slice pa pn pcap, .int .i64 loud, .int .i64 (L : Int), .int .i64 t0, .int .i64 t1, .int .i64 t2, .int .i64 t3, .int .i64 t4, .slice fa fn fcap] 31)).at_ (by omega)
  have HC : Hid (∀ k, k < 5 → ∃ x : Int, lagsN P zs.reverse 0 (k + 1) = lagsN P zs.reverse 0 k + mulI ([t0, t1, t2, t3, t4][k]?.getD 0) x 7 ∧ (w.alloc (.cells #[.slice pa pn pcap, .int .i64 loud, .int .i64 (L : Int), .int .i64 t0, .int .i64 t1, .int .i64 t2, .int .i64 t3, .int .i64 t4, .slice fa fn fcap] 31)).cell? ⟨b, off + (n + 2 - L - k), none⟩ = some (.int .i64 x)) := fun k hk => by
    refine ⟨zs[n + 2 - L - k]?.getD 0, ?_, hc _ (by omega)⟩
    show lagsN P zs.reverse 0 k + mulI (P.taps[k]?.getD 0) (pastI zs.reverse (P.lag - 2 + k)) 7 = _
    rw [hP]
    show _ + mulI _ (pastI zs.reverse (L - 2 + k)) 7 = _
    rw [pastI_reverse hz.len (by omega) (by omega), show n - (L - 2 + k) = n + 2 - L - k by omega]
  have HI : Hid (∀ k : Nat, k < 5 → ∀ W, (Instr.index 29 (.agg #[.int .i64 t0, .int .i64 t1, .int .i64 t2, .int .i64 t3, .int .i64 t4]) (.int .i64 (k : Int))).run Try.prog W = .ok (.int .i64 ([t0, t1, t2, t3, t4][k]?.getD 0)) W) := fun k hk W => idx_five t0 t1 t2 t3 t4 k hk W
  have HL : Hid (∀ k, k ≤ 5 → -83886080 ≤ lagsN P zs.reverse 0 k ∧ lagsN P zs.reverse 0 k ≤ 83886080) := fun k hk => by
    have := lagsN_in hp ht 0 k
    omega
  clear hz hc hp ht hP
  generalize hF : lagsN P zs.reverse 0 = F at *
  have HF0 : Hid (F 0 = 0) := by show _ = _; rw [← hF]; rfl
  clear hF
  have hLz : ((L : Int) == 0) = false := beq_eq_false_iff_ne.2 (by omega)
  have e0 : IntKind.i64.wrap ((L : Int) - 2) = (L : Int) - 2 := by rw [IntKind.wrap_i64]; omega
  have e1 : IntKind.i64.wrap ((n : Int) - ((L : Int) - 2)) = (n : Int) - ((L : Int) - 2) := by rw [IntKind.wrap_i64]; omega
  go_enter Try.func22, Try.ntmps22
  go_wp2
  go_quiet (fail)
  go_wp2
  go_loop [5, 7, 8, 20] (fun s _ _ i => ∃ (k : Nat) (v : Int), k ≤ 5 ∧ i = .int .i64 k ∧ s = .int .i64 v ∧ Hid (v = F k)) (fun _ _ _ i => 5 - (intOf i).toNat)
  case atStart => exact ⟨0, 0, Nat.zero_le _, rfl, rfl, HF0.out.symm⟩
  case round =>
    obtain ⟨k, v, hk, rfl, rfl, HV⟩ := hrel
    by_cases hlt : k < 5
    · obtain ⟨x, hst, hcx⟩ := HC.out k hlt
      have hix := HI.out k hlt
      have hb1 := HL.out k hk
      have hb2 := HL.out (k + 1) hlt
      generalize [t0, t1, t2, t3, t4][k]?.getD 0 = t at *
      obtain ⟨y, hy⟩ : ∃ y, mulI t x 7 = y := ⟨_, rfl⟩
      rw [hy, ← HV.out] at hst
      rw [← HV.out] at hb1
      rw [hst] at hb2
      have HM : Hid (∀ W, Calls Try.prog 25 #[.int .i64 t, .int .i64 x, .int .i64 7] W fun e w' => e = .returned (.int .i64 y) ∧ w' = W) := fun W => by rw [← hy]; exact mul_any _ _ _ _
      have HN : Hid (v + y = F (k + 1)) := hst.symm
      obtain ⟨j, hj⟩ : ∃ j : Nat, n + 2 - L - k = j := ⟨_, rfl⟩
      rw [hj] at hcx
      have e2 : IntKind.i64.wrap ((n : Int) - ((L : Int) - 2) - (k : Int)) = (j : Int) := by rw [IntKind.wrap_i64]; omega
      have e3 : ((n : Int) - ((L : Int) - 2) - (k : Int)) = (j : Int) := by omega
      have hjn : j < n := by omega
      have hkI : (k : Int) < 5 := by omega
      clear hst hy HV HC HL HI HF0 hj
      go_wp2_with (go_at_call 25; refine (HM.out _).mono ?_; rintro e w' ⟨rfl, rfl⟩)
      go_round
      case rel => exact ⟨k + 1, _, by omega, by go_num, rfl, HN.out⟩
      case measure => simp [intOf]; omega
    · obtain rfl : k = 5 := by omega
      go_wp2
      go_ret
      exact ⟨ret_int HV.out, HB.out _⟩

end Go.Proofs.Ytbnkapeahbegaaa
