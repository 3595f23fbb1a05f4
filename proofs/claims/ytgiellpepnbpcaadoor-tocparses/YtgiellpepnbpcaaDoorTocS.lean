/- The law's own 'is': two packets of the same numbers and the same frames are the same. -/
import Derived.Test.YtgiellpepnbpcaaDoorTocR4
namespace Go.Proofs.YtgiellpepnbpcaaDoor
open Go.RowKit

theorem str_frame {w : World} {B : Nat} {fa : Option Addr} {fcap : Nat} {f : List Nat} (h : ByteRow w B fa f) (hnil : fa = none → fcap = 0) (k : Nat) :
    (convert 29 9 (.slice fa f.length fcap)).run Tryd.prog (w.drewN k) = .ok (.string (strN f)) (w.drewN k) :=
  str_of_row (h.drewN k) rfl hnil

set_option maxHeartbeats 1000000 in
theorem is_same (c ch pad : Int) (a1 a2 : Option Addr) (n cap1 cap2 : Nat) (fs : List (List Nat)) (B1 B2 : Nat) (w : World) (h1 : FramesAt w B1 a1 fs) (h2 : FramesAt w B2 a2 fs) (hn : fs.length = n) (hs : n ≤ 140737488351232) :
    Calls Tryd.prog 16 #[.agg #[.int .i64 c, .int .i64 ch, .slice a1 n cap1, .int .i64 pad], .agg #[.int .i64 c, .int .i64 ch, .slice a2 n cap2, .int .i64 pad]] w fun e w' => e = .returned (.bool true) ∧ Below w.heap.size w w' := by
  have H1 : Hid (FramesAt w B1 a1 fs) := h1
  have H2 : Hid (FramesAt w B2 a2 fs) := h2
  have HN : Hid (fs.length = n) := hn
  clear h1 h2 hn
  go_enter Tryd.func16, Tryd.ntmps16
  go_wp2
  go_loopw [5] (fun i W => ∃ m : Nat, m ≤ n ∧ i = .int .i64 m ∧ Hid (Below w.heap.size w W ∧ Four W w.heap.size 25 (.int .i64 c) (.int .i64 ch) (.slice a1 n cap1) (.int .i64 pad) ∧ Four W (w.heap.size + 1) 39 (.int .i64 c) (.int .i64 ch) (.slice a2 n cap2) (.int .i64 pad))) (fun i _ => n - (intOf i).toNat)
  case atStart => exact ⟨0, Nat.zero_le _, rfl, ((Below.refl _ _).alloc (Nat.le_refl _) _).alloc (by simp) _, (four_new w _ _ _ _ _).alloc _, (by have h := four_new (w.alloc (.cells #[.int .i64 c, .int .i64 ch, .slice a1 n cap1, .int .i64 pad] 25)) (.int .i64 c) (.int .i64 ch) (.slice a2 n cap2) (.int .i64 pad) 39; rw [World.size_alloc] at h; exact h)⟩
  case round =>
    obtain ⟨m, hm, rfl, HR⟩ := hrel
    obtain ⟨p0, p1, p2, p3⟩ := HR.out.2.1.cells
    obtain ⟨q0, q1, q2, q3⟩ := HR.out.2.2.cells
    by_cases hlt : m < n
    · obtain ⟨b1, off1, fa1, fcap1, rfl, _, hc1, hnil1, _, hrow1⟩ := (H1.out.keep HR.out.1).elem (i := m) (by rw [HN.out]; exact hlt)
      obtain ⟨b2, off2, fa2, fcap2, rfl, _, hc2, hnil2, _, hrow2⟩ := (H2.out.keep HR.out.1).elem (i := m) (by rw [HN.out]; exact hlt)
      have s1 := str_frame hrow1 (fun h => (hnil1 h).2)
      have s2 := str_frame hrow2 (fun h => (hnil2 h).2)
      generalize fs[m]?.getD [] = f at *
      generalize f.length = x at *
      generalize strN f = y at *
      clear hnil1 hnil2 hrow1 hrow2
      go_wp2
      go_quiet (fail)
      go_wp2
      go_roundw
      case rel => exact ⟨m + 1, by omega, by go_num, Below.drewN HR.out.1 _, HR.out.2.1, HR.out.2.2⟩
      case measure => simp [intOf]; omega
    · obtain rfl : m = n := by omega
      go_wp2
      go_ret
      exact ⟨rfl, HR.out.1⟩

end Go.Proofs.YtgiellpepnbpcaaDoor
