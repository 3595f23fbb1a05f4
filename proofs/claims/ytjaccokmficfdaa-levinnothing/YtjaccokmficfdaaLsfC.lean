/- What the calls with lists of package lsf, and of the document's own answers beside them, come to: lists clamped, sums of squares, lists compared, may an index be? -/
import Derived.Test.YtjaccokmficfdaaLsfB
namespace Go.Proofs.Ytjaccokmficfdaa
open Go.RowKit

def clL (zs : List Int) : List Int := zs.map (clZ 0 32768)
theorem clL_len (zs : List Int) : (clL zs).length = zs.length := by unfold clL; rw [List.length_map]
theorem clL_at {zs : List Int} {j : Nat} (h : j < zs.length) : (clL zs)[j]?.getD 0 = clZ 0 32768 (zs[j]?.getD 0) := by
  unfold clL
  rw [List.getElem?_map, List.getElem?_eq_getElem h]
  rfl
theorem clL_in {zs : List Int} : ∀ x ∈ clL zs, 0 ≤ x ∧ x ≤ 32768 := fun x hx => by
  obtain ⟨y, _, rfl⟩ := List.mem_map.1 hx
  exact clZ_in y
theorem clL_want {zs : List Int} (j : Nat) : (clL zs)[j]?.getD 0 = wantZ zs j := by
  unfold wantZ
  rcases Nat.lt_or_ge j zs.length with h | h
  · exact clL_at h
  · rw [List.getElem?_eq_none (by rw [clL_len]; exact h), List.getElem?_eq_none h]
    rfl

set_option maxHeartbeats 1000000 in
theorem clampAll_any (a : Option Addr) (n cap : Nat) (zs : List Int) (w : World) (hz : Zs w a n zs) (hn : n ≤ 1000) :
    Calls Try.prog 65 #[.slice a n cap] w fun e w' => ∃ a', e = .returned (.slice a' n n) ∧ NewRow 2 w.heap.size w' a' (clL zs) ∧ Below w.heap.size w w' := by
  have hl := hz.len
  have HZ : Hid (∀ W, Below w.heap.size w W → Zs W a n zs) := fun W hb => hz.keep hb
  have HF : Hid (∀ j, j < n → (clL zs)[j]?.getD 0 = clZ 0 32768 (zs[j]?.getD 0)) := fun j hj => clL_at (by omega)
  have HL : Hid ((clL zs).length = n) := by show _ = _; rw [clL_len, hl]
  clear hz hl
  generalize clL zs = f at *
  have hmk := fun W : World => run_make_row' (P := Try.prog) 23 2 (.int .i64 0) 8 Try.underlying23 info_int64 rfl .i64 .i64 n (by omega) (by omega) W
  go_enter Try.func65, Try.ntmps65
  go_wp2
  go_loopw [4, 5, 11] (fun _ _ k W => ∃ m : Nat, m ≤ n ∧ k = .int .i64 m ∧ W.rowIs w.heap.size 2 n (fun j => .int .i64 (if j < m then f[j]?.getD 0 else 0)) ∧ Below w.heap.size w W) (fun _ _ k _ => n - (intOf k).toNat)
  case atStart => exact ⟨0, Nat.zero_le _, rfl, World.rowIs_made w _ _ _, (Below.refl _ _).alloc (Nat.le_refl _) _⟩
  case round =>
    obtain ⟨m, hm, rfl, hrow, hbel⟩ := hrel
    by_cases hlt : m < n
    · have hfz := hrow.frozen m
      obtain ⟨x, hx⟩ : ∃ x, wr.cell? ⟨w.heap.size, m, none⟩ = some x := ⟨_, hrow.cell hlt⟩
      obtain ⟨b, off, rfl, hb, hc⟩ := (HZ.out wr hbel).at_ (by omega)
      have hcm := hc m hlt
      have hfm := HF.out m hlt
      generalize zs[m]?.getD 0 = z at hcm hfm
      have HFm : Hid (clZ 0 32768 z = f[m]?.getD 0) := hfm.symm
      have HR : Hid ((wr.setCell ⟨w.heap.size, m, none⟩ (.int .i64 (f[m]?.getD 0))).rowIs w.heap.size 2 n (fun j => .int .i64 (if j < m + 1 then f[j]?.getD 0 else 0))) := rowIs_step (f := fun j => f[j]?.getD 0) hrow (by omega)
      have HB : Hid (Below w.heap.size w (wr.setCell ⟨w.heap.size, m, none⟩ (.int .i64 (f[m]?.getD 0)))) := hbel.setCell (Nat.le_refl _) _
      clear hrow hbel HF hc HZ hfm
      generalize f[m]?.getD 0 = fm at HFm HR HB
      go_wp2_with (go_at_call 69; refine (lclamp_any _ _).mono ?_; rw [HFm.out]; rintro e w' ⟨rfl, rfl⟩)
      go_roundw
      case rel => exact ⟨m + 1, by omega, by go_num, HR.out, HB.out⟩
      case measure => simp [intOf]; omega
    · have hm' : m = n := by omega
      subst hm'
      have HR : Hid (NewRow 2 w.heap.size wr (some ⟨w.heap.size, 0, none⟩) f) := NewRow.of_rowIs hrow (Nat.le_refl _) HL.out (fun j hj => by rw [if_pos hj])
      clear hrow HF HZ
      go_wp2
      go_ret
      exact ⟨_, rfl, HR.out, hbel⟩

set_option maxHeartbeats 1000000 in
theorem rclamped_any (a : Option Addr) (n cap : Nat) (zs : List Int) (w : World) (hz : Zs w a n zs) (hn : n ≤ 1000) :
    Calls Try.prog 30 #[.slice a n cap, .int .i64 0, .int .i64 32768] w fun e w' => ∃ a' c', e = .returned (.slice a' n c') ∧ NewRow 2 w.heap.size w' a' (clL zs) ∧ Below w.heap.size w w' := by
  have hl := hz.len
  have HZ : Hid (∀ W, Below w.heap.size w W → Zs W a n zs) := fun W hb => hz.keep hb
  have HF : Hid (∀ j, j < n → (clL zs)[j]?.getD 0 = clampI (zs[j]?.getD 0) 0 32768) := fun j hj => by rw [clL_at (by omega), clampI_clZ _ _ _ (by decide)]
  have HL : Hid ((clL zs).length = n) := by show _ = _; rw [clL_len, hl]
  clear hz hl
  generalize clL zs = f at *
  go_enter Try.func30, Try.ntmps30
  go_wp2
  go_loopw [7, 8] (fun v k W => ∃ m : Nat, m ≤ n ∧ k = .int .i64 m ∧ W.ownsRow w.heap.size 2 1 v m ((f.take m).map (Value.int .i64)) ∧ Below w.heap.size w W) (fun _ k _ => n - (intOf k).toNat)
  case atStart => exact ⟨0, Nat.zero_le _, rfl, World.ownsRow_nil _ _ _ _, Below.refl _ _⟩
  case round =>
    obtain ⟨m, hm, rfl, hown, hbel⟩ := hrel
    by_cases hlt : m < n
    · obtain ⟨b, off, rfl, hb, hc⟩ := (HZ.out wr hbel).at_ (by omega)
      have hcm := hc m hlt
      have HFm : Hid (clampI (zs[m]?.getD 0) 0 32768 = f[m]?.getD 0) := (HF.out m hlt).symm
      have HT : Hid (f.take m ++ [f[m]?.getD 0] = f.take (m + 1)) := (take_snoc (by rw [HL.out]; exact hlt)).symm
      generalize zs[m]?.getD 0 = z at hcm HFm
      have hB := hbel.size
      clear HF hc HZ
      go_wp2_with (first
        | (go_at_call 31; refine (rclamp_any _ _ _ _).mono ?_; rw [HFm.out]; rintro e w' ⟨rfl, rfl⟩)
        | (at_builtin; refine wpList_append_one 23 2 Try.underlying23 info_int64 w.heap.size _ m (f.take m) _ hown (by omega) hB rfl _ _ rfl rfl rfl ?_; rw [HT.out]; intro v' w1 hown1 hb1; clear hown; have hb2 := hbel.trans hb1; clear hbel hb1))
      go_roundw
      case rel => exact ⟨m + 1, by omega, by go_num, hown1, hb2⟩
      case measure => simp [intOf]; omega
    · have hm' : m = n := by omega
      subst hm'
      rw [List.take_of_length_le (by rw [HL.out]; omega)] at hown
      obtain ⟨_, a', c', rfl, hnew⟩ := NewRow.of_owned hown
      clear hown HF HZ
      go_wp2
      go_ret
      exact ⟨_, _, rfl, hnew, hbel⟩

end Go.Proofs.Ytjaccokmficfdaa
