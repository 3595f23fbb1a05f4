/- What slices.Backward over numbers comes to: the rounds from the last place to the first, where each round leaves the places below its own. -/
import Derived.Test.YtjaccokmficfdaaLsfR
import Derived.Test.YtjaccokmficfdaaLsfD
namespace Go.Proofs.Ytjaccokmficfdaa
open Go.RowKit Go.Shelf

attribute [local go_sem] Oper.semAt_some

theorem backward_in (F : Fence) (n : Nat) (h5 : F.fn 66) (hro : F.round = none) (a : Option Addr) (len cap : Nat) (w : World) :
    CallsIn F n Try.prog 66 #[.slice a len cap] w fun e w' => e = .returned (.func (.func 70) #[] #[.pointer (some ⟨w.heap.size, 0, none⟩)]) ∧ w' = w.alloc (.cells #[.slice a len cap] 23) := by
  refine callsIn_of_wp Try.func66 rfl h5 ?_ hro
  simp only [Try.ntmps66, List.size_toArray, List.length_cons, List.length_nil, Nat.reduceAdd, Nat.reduceSub, Array.replicate_succ, Array.replicate_zero, List.push_toArray, List.append_toArray, List.nil_append, List.cons_append]
  gi_wp2
  go_ret
  exact ⟨rfl, rfl⟩

/-- What has come when k rounds are over: the last k, the highest place first. -/
def downN (zs : List Int) (k : Nat) : List (Nat × Int) := (List.range k).map fun t => (zs.length - 1 - t, atN zs (zs.length - 1 - t))
theorem downN_len (zs : List Int) (k : Nat) : (downN zs k).length = k := by simp [downN]
theorem downN_succ (zs : List Int) (k : Nat) : downN zs (k + 1) = downN zs k ++ [(zs.length - 1 - k, atN zs (zs.length - 1 - k))] := by
  unfold downN
  rw [List.range_succ, List.map_append]
  rfl

set_option maxRecDepth 100000 in
set_option maxHeartbeats 2000000 in
theorem back_rounds (F : Fence) (n : Nat) (h6 : F.fn 70) (hro : F.round = none) (hn : 1 ≤ n) (l Bs len cap : Nat) (a : Option Addr) (zs : List Int) (hl : zs.length = len) (hlen : len ≤ 1000) (J : List (Nat × Int) → World → Prop)
    (hJ : ∀ k W, k ≤ len → J (downN zs k) W → W.cell? ⟨Bs, 0, none⟩ = some (.slice a len cap) ∧ ∀ j, j < len - k → ∃ b, a = some ⟨b, 0, none⟩ ∧ W.cell? ⟨b, j, none⟩ = some (.int .i64 (atN zs j)))
    (hY : ∀ pre x W1, J pre W1 → (∃ k, k < len ∧ pre = downN zs k ∧ x = (len - 1 - k, atN zs (len - 1 - k))) → YieldAt F (n - 1) Try.prog l #[.int .i64 (x.1 : Int), .int .i64 x.2] W1 fun e W' => e = .returned (.bool true) ∧ J (pre ++ [x]) W')
    (W : World) (h0 : J [] W) :
    CallsIn F n Try.prog 70 #[.func (.yield l) #[] #[], .pointer (some ⟨Bs, 0, none⟩)] W fun e W' => (∃ v, e = .returned v) ∧ ∃ xs, xs = downN zs len ∧ J xs W' := by
  have HJ : Hid (∀ k W, k ≤ len → J (downN zs k) W → W.cell? ⟨Bs, 0, none⟩ = some (.slice a len cap) ∧ ∀ j, j < len - k → ∃ b, a = some ⟨b, 0, none⟩ ∧ W.cell? ⟨b, j, none⟩ = some (.int .i64 (atN zs j))) := hJ
  have HY : Hid (∀ k W1, k < len → J (downN zs k) W1 → YieldAt F (n - 1) Try.prog l #[.int .i64 ((len - 1 - k : Nat) : Int), .int .i64 (atN zs (len - 1 - k))] W1 fun e W' => e = .returned (.bool true) ∧ J (downN zs (k + 1)) W') := fun k W1 hk h => by
    have h2 := hY _ (len - 1 - k, atN zs (len - 1 - k)) W1 h ⟨k, hk, rfl, rfl⟩
    rw [downN_succ, hl]
    exact h2
  have hb0 := (HJ.out 0 W (Nat.zero_le _) h0).1
  have H0 : Hid (J (downN zs 0) W) := h0
  clear hJ hY h0 hl
  refine callsIn_of_wp Try.func70 rfl h6 ?_ hro
  simp only [Try.ntmps70, List.size_toArray, List.length_cons, List.length_nil, Nat.reduceAdd, Nat.reduceSub, Array.replicate_succ, Array.replicate_zero, List.push_toArray, List.append_toArray, List.nil_append, List.cons_append]
  gi_wp2
  gi_loopw [3] (fun i wr => ∃ k : Nat, k ≤ len ∧ i = .int .i64 ((len : Int) - 1 - k) ∧ Hid (J (downN zs k) wr)) (fun i _ => (intOf i + 1).toNat)
  case atStart => exact ⟨0, Nat.zero_le _, by go_num, H0⟩
  case round =>
    obtain ⟨k, hk, rfl, HJs⟩ := hrel
    by_cases hlt : k < len
    · obtain ⟨fn, tmps, assign, body, hy, hR⟩ := HY.out k wr hlt HJs.out
      obtain ⟨hbx, hcs⟩ := HJ.out k wr hk HJs.out
      obtain ⟨b, rfl, hcx⟩ := hcs (len - 1 - k) (by omega)
      clear hcs HJ
      obtain ⟨t, ht⟩ : ∃ t : Nat, len - 1 - k = t := ⟨_, rfl⟩
      have e1 : ((len : Int) - 1 - k) = (t : Int) := by omega
      rw [ht] at hy hcx
      rw [e1]
      have hb1 : t < len := by omega
      gi_wp2
      refine hR.mono ?_
      rintro e W3 ⟨rfl, hJ3⟩
      have HJ3 : Hid (J (downN zs (k + 1)) W3) := hJ3
      clear hJ3
      gi_wp2
      go_roundw
      case rel => exact ⟨k + 1, by omega, by rw [← ht]; go_num, HJ3⟩
      case measure => simp [intOf]
    · obtain rfl : k = len := by omega
      have e1 : ((k : Int) - 1 - k) = -1 := by omega
      rw [e1]
      gi_wp2
      go_end0
      exact ⟨⟨_, rfl⟩, _, rfl, HJs.out⟩

end Go.Proofs.Ytjaccokmficfdaa
