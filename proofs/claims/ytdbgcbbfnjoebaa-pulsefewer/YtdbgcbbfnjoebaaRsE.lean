/- The document's own reader is made. -/
import Derived.Test.YtdbgcbbfnjoebaaRsD
namespace Go.Proofs.Ytdbgcbbfnjoebaa
open Go.RowKit

/-- The state as the record is laid. -/
def rawS : St := { rng := 128, val := 0, last := 0, front := 0, raw := 0, cnt := 9, bad := false }

/-- Where the bytes lie, or, where there are none, anywhere. -/
def homeOf (n g p : Nat) : Nat := if 0 < n then g else p

theorem Rq.made {w : World} {q n c : Nat} {r : Option Addr} {bs : List Nat} (hb : BytesIn w q r n bs) (hq : 0 < n → q < w.heap.size) (hn : n ≤ 140737488351232) :
    Rq w.heap.size (homeOf n q w.heap.size) bs rawS 0 (w.alloc (.cells #[.slice r n c, .int .u64 128, .int .u64 0, .int .i64 0, .int .i64 0, .int .i64 0, .int .u64 0, .int .i64 0, .int .i64 9, .bool false, .int .u64 0] 61)) := by
  refine ⟨r, n, c, 0, 0, 0, World.rowIs_alloc w _ _ _ (lt11 rfl rfl rfl rfl ?_ ?_ rfl rfl rfl rfl rfl), ?_, ?_, hn, ⟨rfl, rfl, by decide⟩⟩
  · show _ = some (Value.int .i64 ((min 0 n : Nat) : Int))
    rw [Nat.zero_min]; rfl
  · show _ = some (Value.int .i64 ((min 0 n : Nat) : Int))
    rw [Nat.zero_min]; rfl
  · by_cases h0 : 0 < n
    · rw [homeOf, if_pos h0]
      exact hb.of_block fun _ => Below.heap_alloc _ _ _ (hq h0)
    · exact ⟨hb.1, hb.2.1, fun h => absurd h h0⟩
  · intro h0
    rw [homeOf, if_pos h0]
    have := hq h0
    omega

set_option maxHeartbeats 800000 in
theorem rnew_any (g : Nat) (a : Option Addr) (n cap : Nat) (bs : List Nat) (w : World) (h : ArgIn w g a n cap bs) :
    Calls Try.prog 18 #[.slice a n cap] w fun e w' => ∃ p, e = .returned (.pointer (some ⟨p, 0, none⟩)) ∧ Rr p (homeOf n g p) bs (initS bs) w' ∧ w.heap.size ≤ p ∧ Below w.heap.size w w' := by
  have HM : Hid (Rq w.heap.size (homeOf n g w.heap.size) bs rawS 0 (w.alloc (.cells #[.slice a n cap, .int .u64 128, .int .u64 0, .int .i64 0, .int .i64 0, .int .i64 0, .int .u64 0, .int .i64 0, .int .i64 9, .bool false, .int .u64 0] 61))) := Rq.made h.bytes (fun h0 => h.bytes.lt h0) h.size
  have hby := h.bytes.2.1 0
  have HP : Hid (Pre (startS bs)) := startS_pre h.bytes.2.1
  have hc : (startS bs).cnt ≤ 1000000000000000 := by show 9 ≤ _; decide
  have HV : Hid ((127 : Int) - (byteAt bs 0 : Int) / 2 = (127 - byteAt bs 0 / 2 : Nat)) := by show _ = _; omega
  have hsz := h.size
  clear h
  go_enter Try.func18, Try.ntmps18
  go_wp2_with (first
    | (go_at_call 36; refine (rnext_any _ _ bs rawS 0 _ HM.out).mono ?_; rintro e w1 ⟨rfl, hw1, hw2⟩; obtain ⟨p1, p2, p3, p8, p9, p10, pf⟩ := hw1.fields; have HB0 : byteAt bs rawS.front = byteAt bs 0 := rfl; rw [HB0]; clear HB0 p1 p8 p9 p10; have HQ : Hid (∀ x v : Int, x = (byteAt bs 0 : Nat) → v = (127 - byteAt bs 0 / 2 : Nat) → Rq w.heap.size (homeOf n g w.heap.size) bs (startS bs) 0 ((w1.setCell ⟨w.heap.size, 3, none⟩ (.int .i64 x)).setCell ⟨w.heap.size, 2, none⟩ (.int .u64 v))) := fun x v e1 e2 => (hw1.setLast _ e1).setVal _ e2; clear hw1)
    | (go_at_call 37; refine (ron_any _ _ bs (startS bs) 0 _ (HQ.out _ _ rfl HV.out) HP.out hc).mono ?_; rintro e w2 ⟨rfl, hw3, hw4⟩))
  go_ret
  exact ⟨w.heap.size, rfl, ⟨_, hw3⟩, Nat.le_refl _, ((((Below.refl _ _).alloc (Nat.le_refl _) _).trans (hw2.below (Nat.le_refl _))).setCell (Nat.le_refl _) _ |>.setCell (Nat.le_refl _) _).trans (hw4.below (Nat.le_refl _))⟩

end Go.Proofs.Ytdbgcbbfnjoebaa
