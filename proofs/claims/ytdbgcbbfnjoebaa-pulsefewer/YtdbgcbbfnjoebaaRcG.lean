/- The program's reader is made. -/
import Derived.Test.YtdbgcbbfnjoebaaRcF
namespace Go.Proofs.Ytdbgcbbfnjoebaa
open Go.RowKit

/-- The state of a reader of bs ahead of its first going on. -/
def startS (bs : List Nat) : St := { rng := 128, val := 127 - byteAt bs 0 / 2, last := byteAt bs 0, front := 1, raw := 0, cnt := 9, bad := false }

theorem startS_pre {bs : List Nat} (hb : Bytes bs) : Pre (startS bs) :=
  ⟨by show 1 ≤ 128; decide, by show 128 ≤ 2147483648; decide, by show 127 - byteAt bs 0 / 2 < 128; omega, hb 0, rfl⟩

theorem Rd.made {w : World} {q n c : Nat} {r : Option Addr} {bs : List Nat} (hb : BytesIn w q r n bs) (hq : 0 < n → q < w.heap.size) (hn : n ≤ 140737488351232) {v : Int} (hv : v = (127 - byteAt bs 0 / 2 : Nat)) :
    Rd w.heap.size (if 0 < n then q else w.heap.size) bs (startS bs) (w.alloc (.cells #[.slice r n c, .int .i64 128, .int .i64 v, .int .i64 (byteAt bs 0), .int .i64 1, .int .i64 0, .int .i64 0, .int .i64 0, .int .i64 9, .bool false] 50)) := by
  refine ⟨r, n, c, 0, 0, 0, World.rowIs_alloc w _ _ _ (lt10 rfl rfl (by rw [hv]; rfl) rfl rfl rfl rfl rfl rfl rfl), ?_, ?_, hn, ⟨rfl, rfl, by decide⟩⟩
  · by_cases h0 : 0 < n
    · rw [if_pos h0]
      exact hb.of_block fun _ => Below.heap_alloc _ _ _ (hq h0)
    · exact ⟨hb.1, hb.2.1, fun h => absurd h h0⟩
  · intro h0
    rw [if_pos h0]
    have := hq h0
    omega

set_option maxHeartbeats 800000 in
theorem new_any (g : Nat) (a : Option Addr) (n cap : Nat) (bs : List Nat) (w : World) (h : ArgIn w g a n cap bs) :
    Calls Try.prog 11 #[.slice a n cap] w fun e w' => ∃ p q, e = .returned (.pointer (some ⟨p, 0, none⟩)) ∧ Rd p q bs (initS bs) w' ∧ w.heap.size ≤ q ∧ q ≤ p ∧ Below w.heap.size w w' := by
  have HH : Hid (ArgIn w g a n cap bs) := h
  have hsz := h.size
  have hby := h.bytes.2.1 0
  have HP : Hid (Pre (startS bs)) := startS_pre h.bytes.2.1
  have hc : (startS bs).cnt ≤ 1000000000000000 := by show 9 ≤ _; decide
  have hv : (127 : Int) - (byteAt bs 0 : Int) / 2 = (127 - byteAt bs 0 / 2 : Nat) := by omega
  have HV : Hid ((127 : Int) - (byteAt bs 0 : Int) / 2 = (127 - byteAt bs 0 / 2 : Nat)) := hv
  clear h hv
  go_enter Try.func11, Try.ntmps11
  go_wp2_with (first
    | (go_at_call 27; refine (clone_bytes g a n cap bs _ HH.out).mono ?_; rintro e w1 ⟨r, c, q, rfl, hr1, hr2, hr3⟩; have HM : Hid (∀ v : Int, v = (127 - byteAt bs 0 / 2 : Nat) → Rd w1.heap.size (if 0 < n then q else w1.heap.size) bs (startS bs) (w1.alloc (.cells #[.slice r n c, .int .i64 128, .int .i64 v, .int .i64 (byteAt bs 0), .int .i64 1, .int .i64 0, .int .i64 0, .int .i64 0, .int .i64 9, .bool false] 50))) := fun v hv => Rd.made hr1 (fun h0 => (hr2 h0).2) hsz hv; have HBI : Hid (∀ o, BytesIn (w1.alloc o) q r n bs) := fun o => hr1.of_block fun h0 => Below.heap_alloc _ _ _ (hr2 h0).2; have HR2 : Hid (0 < n → w.heap.size ≤ q ∧ q < w1.heap.size) := hr2; clear hr2 hr1)
    | (go_at_call 28; refine (fromFront_run _ q n c 0 r bs _ (HBI.out _) hsz (fun h0 => by have := HR2.out h0; omega) (by decide) ?_ ?_ ?_).mono ?_; (· go_simp); (· go_simp); (· go_simp); rintro e w' ⟨rfl, rfl⟩)
    | (go_at_call 29; refine (goOn_any _ _ bs (startS bs) _ (HM.out _ HV.out) HP.out hc).mono ?_; rintro e w2 ⟨rfl, hw1, hw2⟩))
  go_ret
  have hs := hr3.size
  refine ⟨w1.heap.size, if 0 < n then q else w1.heap.size, rfl, hw1, ?_, ?_, ((hr3.alloc hs _).trans (hw2.below hs))⟩
  · split
    · exact (HR2.out (by assumption)).1
    · exact hs
  · split
    · have := HR2.out (by assumption); omega
    · exact Nat.le_refl _

end Go.Proofs.Ytdbgcbbfnjoebaa
