/- Windows: what package tabs, and the document's own answer, come to. -/
import Derived.Test.YtjcbcmloenhohabDoorTabsE
namespace Go.Proofs.YtjcbcmloenhohabDoor
open Go.RowKit

def winAng (l : Int) (k : Nat) : Int := ((2 * (k : Int) + 1) * 16384 / l + 1) / 2
def winUp (s : Int) : Int := sinI ((mulI s s 15 + 1) / 2)
def winAt (l : Int) (k : Nat) : Int := winUp (sinI (winAng l k))
def winL (l : Int) : List Int := if l < 1 ∨ 480 < l then [] else (List.range l.toNat).map (winAt l)

theorem winL_some {l : Int} (h0 : 1 ≤ l) (h1 : l ≤ 480) : winL l = (List.range l.toNat).map (winAt l) := by rw [winL, if_neg (by omega)]

theorem halfI_in (a : Int) : -65537 ≤ halfI a ∧ halfI a ≤ 65537 := by
  unfold halfI
  have h1 := quarterI_in (32768 - a)
  have h2 := quarterI_in a
  split <;> omega

theorem sinI_in (a : Int) : -65537 ≤ sinI a ∧ sinI a ≤ 65537 := halfI_in _

theorem sq15_in (s : Int) (h1 : -65537 ≤ s) (h2 : s ≤ 65537) : 0 ≤ mulI s s 15 ∧ mulI s s 15 ≤ 131080 := by
  have e : cf s = s := by
    unfold cf clampI
    rw [if_neg (by omega), if_neg (by omega), if_neg (by omega)]
  have h3 : mulI s s 15 = (s * s + 16384) / 32768 := by
    rw [mulI, if_neg (by decide), if_neg (by decide), if_neg (by decide), e]; rfl
  have h4 : (s * s).natAbs ≤ 65537 * 65537 := by rw [Int.natAbs_mul]; exact Nat.mul_le_mul (by omega) (by omega)
  have h5 : 0 ≤ s * s := by
    rcases Int.le_total 0 s with h | h
    · exact Int.mul_nonneg h h
    · exact Int.mul_nonneg_of_nonpos_of_nonpos h h
  rw [h3]
  omega

theorem ang_in {l : Int} {k : Nat} (h : (k : Int) < l) (h2 : l ≤ 480) : 0 ≤ (2 * (k : Int) + 1) * 16384 / l ∧ (2 * (k : Int) + 1) * 16384 / l ≤ 32768 := by
  refine ⟨Int.ediv_nonneg (by omega) (by omega), ?_⟩
  have h1 : (2 * (k : Int) + 1) * 16384 / l < 32769 := Int.ediv_lt_of_lt_mul (by omega) (by omega)
  omega

set_option maxHeartbeats 1000000 in
theorem window_any (l : Int) (w : World) :
    Calls Tryd.prog 7 #[.int .i64 l] w fun e w' => ∃ a cap, e = .returned (.slice a (winL l).length cap) ∧ NewRow 2 w.heap.size w' a (winL l) ∧ Below w.heap.size w w' := by
  by_cases h : l < 1 ∨ 480 < l
  · have e : winL l = [] := by rw [winL, if_pos h]
    rw [e]; clear e
    rcases h with h | h
    all_goals
      go_enter Tryd.func7, Tryd.ntmps7
      go_wp2
      go_ret
      exact ⟨_, _, rfl, .none, Below.refl _ _⟩
  · obtain ⟨n, rfl⟩ := Int.eq_ofNat_of_zero_le (show 0 ≤ l by omega)
    have hn : 1 ≤ n ∧ n ≤ 480 := by omega
    clear h
    rw [winL_some (by omega) (by omega)]
    have hlen : ((List.range ((n : Int)).toNat).map (winAt n)).length = n := by simp
    rw [hlen]; clear hlen
    rw [show ((n : Int)).toNat = n from rfl]
    have hmk := fun W : World => run_make_row' (P := Tryd.prog) 25 2 (.int .i64 0) 8 Tryd.underlying25 info_int64 rfl .i64 .i64 n (by omega) (by omega) W
    have HF : Hid (∀ k : Nat, winAt n k = sinI ((mulI (sinI (((2 * (k : Int) + 1) * 16384 / (n : Int) + 1) / 2)) (sinI (((2 * (k : Int) + 1) * 16384 / (n : Int) + 1) / 2)) 15 + 1) / 2)) := fun k => rfl
    generalize winAt n = f at HF ⊢
    go_enter Tryd.func7, Tryd.ntmps7
    go_wp2
    go_loopw [4, 5, 16] (fun _ _ k W => ∃ m : Nat, m ≤ n ∧ k = .int .i64 m ∧ W.rowIs w.heap.size 2 n (fun j => .int .i64 (if j < m then f j else 0)) ∧ Below w.heap.size w W) (fun _ _ k _ => n - (intOf k).toNat)
    case atStart => exact ⟨0, Nat.zero_le _, rfl, World.rowIs_made w _ _ _, (Below.refl _ _).alloc (Nat.le_refl _) _⟩
    case round =>
      obtain ⟨m, hm, rfl, hrow, hbel⟩ := hrel
      by_cases hlt : m < n
      · have hf := HF.out m
        have hq := ang_in (l := (n : Int)) (k := m) (by omega) (by omega)
        have hs := sinI_in (((2 * (m : Int) + 1) * 16384 / (n : Int) + 1) / 2)
        have hsq := sq15_in _ hs.1 hs.2
        generalize hS : sinI (((2 * (m : Int) + 1) * 16384 / (n : Int) + 1) / 2) = S at hf hs hsq
        have hS' : Hid (sinI (((2 * (m : Int) + 1) * 16384 / (n : Int) + 1) / 2) = S) := hS
        have HFm : Hid (sinI ((mulI S S 15 + 1) / 2) = f m) := hf.symm
        clear hf hS HF hmk
        have HR : Hid (∀ W : World, Below wr.heap.size wr W → (W.setCell ⟨w.heap.size, m, none⟩ (.int .i64 (f m))).rowIs w.heap.size 2 n (fun j => .int .i64 (if j < m + 1 then f j else 0)) ∧ Below w.heap.size w (W.setCell ⟨w.heap.size, m, none⟩ (.int .i64 (f m))) ∧
            W.frozen? ⟨w.heap.size, m, none⟩ = false ∧ ∃ x, W.cell? ⟨w.heap.size, m, none⟩ = some x) := fun W hW => by
          have hr : W.rowIs w.heap.size 2 n (fun j => .int .i64 (if j < m then f j else 0)) := hrow.of_block (hW.block _ hrow.lt)
          exact ⟨rowIs_step hr hlt, (hbel.trans (hW.mono hbel.size)).setCell (Nat.le_refl _) _, hr.frozen m, _, hr.cell hlt⟩
        have hb := Below.refl wr.heap.size wr
        clear hrow hbel
        go_wp2_with (first
          | (go_at_call 18; refine (half_any _ _ ?_ ?_).mono ?_; omega; omega; rintro e w' ⟨rfl, rfl⟩)
          | (go_at_call 19; refine (mul_any _ _ _ _).mono ?_; rintro e w' ⟨rfl, rfl⟩)
          | (go_at_call 17; refine (sin_any _ _).mono ?_; rw [hS'.out]; rintro e w1 ⟨rfl, hw1⟩; have hb1 := hb.trans (hw1.mono hb.size); clear hw1 hb)
          | (go_at_call 17; refine (sin_any _ _).mono ?_; rw [HFm.out]; rintro e w2 ⟨rfl, hw2⟩; have hb2 := hb1.trans (hw2.mono hb1.size); clear hw2 hb1; obtain ⟨r1, r2, r3, x, r4⟩ := HR.out _ hb2; have R1 : Hid _ := r1; have R2 : Hid _ := r2; clear r1 r2 HR))
        go_roundw
        case rel => exact ⟨m + 1, by omega, by go_num, R1.out, R2.out⟩
        case measure => simp [intOf]; omega
      · have hm' : m = n := by omega
        subst hm'
        have HR : Hid (NewRow 2 w.heap.size wr (some ⟨w.heap.size, 0, none⟩) ((List.range m).map f)) := NewRow.of_rowIs hrow (Nat.le_refl _) (by simp) (fun j hj => by rw [if_pos hj, map_range_at f m j hj])
        clear hrow HF hmk
        go_wp2
        go_ret
        exact ⟨_, _, rfl, HR.out, hbel⟩

end Go.Proofs.YtjcbcmloenhohabDoor
