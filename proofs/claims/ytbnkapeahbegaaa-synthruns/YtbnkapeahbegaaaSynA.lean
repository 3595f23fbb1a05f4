/- Package synth's small calls: what is kept, lists looked at; the document's beside them. -/
import Derived.Test.YtbnkapeahbegaaaSynN
import Derived.Test.YtbnkapeahbegaaaSynQ
import Derived.Test.YtbnkapeahbegaaaFixR
namespace Go.Proofs.Ytbnkapeahbegaaa
open Go.RowKit

theorem kept_any (v : Int) (w : World) : Calls Try.prog 21 #[.int .i64 v] w fun e w' => e = .returned (.int .i64 (keep24 v)) ∧ w' = w := by
  go_enter Try.func21, Try.ntmps21
  go_wp2_with (go_at_call 32; refine (clamp_any _ _ _ _).mono ?_; rintro e w' ⟨rfl, rfl⟩)
  go_ret
  exact ⟨rfl, rfl⟩

theorem rkeep_any (v : Int) (w : World) : Calls Try.prog 29 #[.int .i64 v] w fun e w' => e = .returned (.int .i64 (keep24 v)) ∧ w' = w := by
  go_enter Try.func29, Try.ntmps29
  go_wp2_with (go_at_call 34; refine (rclamp_any _ _ _ _).mono ?_; rintro e w' ⟨rfl, rfl⟩)
  go_ret
  exact ⟨rfl, rfl⟩

/-- No number is beyond m, on either side. -/
def withinB (m : Int) (zs : List Int) : Bool := zs.all fun v => decide (-m ≤ v ∧ v ≤ m)
theorem withinB_drop {m : Int} {zs : List Int} {k : Nat} (h : k < zs.length) : withinB m (zs.drop k) = (decide (-m ≤ zs[k]?.getD 0 ∧ zs[k]?.getD 0 ≤ m) && withinB m (zs.drop (k + 1))) := by
  rw [drop_cons h]
  rfl
theorem withinB_end {m : Int} {zs : List Int} {k : Nat} (h : zs.length ≤ k) : withinB m (zs.drop k) = true := by
  rw [List.drop_eq_nil_of_le h]
  rfl
theorem withinB_at {m : Int} {zs : List Int} (h : withinB m zs = true) {k : Nat} (hk : k < zs.length) : -m ≤ zs[k]?.getD 0 ∧ zs[k]?.getD 0 ≤ m := by
  unfold withinB at h
  rw [List.all_eq_true] at h
  have := h zs[k] (List.getElem_mem hk)
  rw [List.getElem?_eq_getElem hk]
  simpa using this
theorem withinB_all {m : Int} (hm : 0 ≤ m) {zs : List Int} (h : withinB m zs = true) (k : Nat) : -m ≤ zs[k]?.getD 0 ∧ zs[k]?.getD 0 ≤ m := by
  by_cases hk : k < zs.length
  · exact withinB_at h hk
  · rw [List.getElem?_eq_none (by omega)]
    exact ⟨by show -m ≤ 0; omega, hm⟩

set_option maxHeartbeats 1000000 in
theorem allWithin_any (a : Option Addr) (n cap : Nat) (zs : List Int) (m : Int) (w : World) (hz : Zs w a n zs) (hn : n ≤ 9223372036854775807) (h0 : 0 ≤ m) (h1 : m ≤ 1099511627776) :
    Calls Try.prog 26 #[.slice a n cap, .int .i64 m] w fun e w' => e = .returned (.bool (withinB m zs)) ∧ w' = w := by
  obtain ⟨G, hG⟩ : ∃ G, withinB m zs = G := ⟨_, rfl⟩
  have HG : Hid (withinB m (zs.drop 0) = G) := hG
  rw [hG]
  have hl := hz.len
  have HZ : Hid (0 < n → ∃ b off, a = some ⟨b, off, none⟩ ∧ b < w.heap.size ∧ ∀ i, i < n → w.cell? ⟨b, off + i, none⟩ = some (.int .i64 (zs[i]?.getD 0))) := hz.at_
  have HL : Hid (zs.length = n) := hl
  clear hG hz hl
  go_enter Try.func26, Try.ntmps26
  go_wp2
  go_loop [6, 9] (fun _ x => ∃ k : Nat, k ≤ n ∧ x = .int .i64 k ∧ Hid (withinB m (zs.drop k) = G)) (fun _ x => n - (intOf x).toNat)
  case atStart => exact ⟨0, Nat.zero_le _, rfl, HG⟩
  case round =>
    clear HG
    obtain ⟨k, hk, rfl, HS⟩ := hrel
    by_cases hlt : k < n
    · obtain ⟨b, off, rfl, _, hc⟩ := HZ.out (by omega)
      have hck := hc k hlt
      have hst := HS.out
      rw [withinB_drop (by have := HL.out; omega)] at hst
      generalize zs[k]?.getD 0 = x at hck hst
      have HST : Hid ((decide (-m ≤ x ∧ x ≤ m) && withinB m (zs.drop (k + 1))) = G) := hst
      clear hst hc HS HZ
      by_cases hx : -m ≤ x ∧ x ≤ m
      · obtain ⟨hx1, hx2⟩ := hx
        have HN : Hid (withinB m (zs.drop (k + 1)) = G) := by
          show _ = _
          rw [← HST.out, decide_eq_true ⟨hx1, hx2⟩]
          rfl
        clear HST
        go_wp2
        go_round
        case rel => exact ⟨k + 1, by omega, by go_num, HN⟩
        case measure => simp [intOf]; omega
      · have hGf : G = false := by
          rw [← HST.out, decide_eq_false hx]
          rfl
        subst hGf
        clear HST
        by_cases hx1 : x < -m
        · clear hx
          go_wp2
          go_ret
          exact ⟨rfl, rfl⟩
        · have hx2 : m < x := by omega
          clear hx
          go_wp2
          go_ret
          exact ⟨rfl, rfl⟩
    · have : G = true := by
        rw [← HS.out]
        exact withinB_end (by have := HL.out; omega)
      subst this
      clear HS
      go_wp2
      go_ret
      exact ⟨rfl, rfl⟩

end Go.Proofs.Ytbnkapeahbegaaa
