/- Windows: what the document's own answer comes to. -/
import Derived.Test.YtjcbcmloenhohaaDoorTabsH
namespace Go.Proofs.YtjcbcmloenhohaaDoor
open Go.RowKit

set_option maxHeartbeats 1000000 in
theorem rwindow_any (l : Int) (w : World) (hl : -9223372036854775808 ≤ l) :
    Calls Tryd.prog 25 #[.int .i64 l] w fun e w' => ∃ a cap, e = .returned (.slice a (winL l).length cap) ∧ NewRow 2 w.heap.size w' a (winL l) ∧ Below w.heap.size w w' := by
  by_cases h : l < 1 ∨ 480 < l
  · have e : winL l = [] := by rw [winL, if_pos h]
    rw [e]; clear e
    rcases h with h | h
    all_goals
      go_enter Tryd.func25, Tryd.ntmps25
      go_wp2
      go_loop [3, 4, 5] (fun v i _ => v = .slice none 0 0 ∧ i = .int .i64 0) (fun _ _ _ => 0)
      case atStart => exact ⟨rfl, rfl⟩
      case round =>
        obtain ⟨rfl, rfl⟩ := hrel
        go_wp2
        all_goals
          go_ret
          exact ⟨_, ⟨_, rfl⟩, NewRow.none, Below.refl _ _⟩
  · obtain ⟨n, rfl⟩ := Int.eq_ofNat_of_zero_le (show 0 ≤ l by omega)
    have hn : 1 ≤ n ∧ n ≤ 480 := by omega
    clear h hl
    rw [winL_some (by omega) (by omega)]
    have hlen : ((List.range ((n : Int)).toNat).map (winAt n)).length = n := by simp
    rw [hlen]; clear hlen
    rw [show ((n : Int)).toNat = n from rfl]
    have HF : Hid (∀ k : Nat, winAt n k = sinI ((mulI (sinI (((2 * (k : Int) + 1) * 16384 / (n : Int) + 1) / 2)) (sinI (((2 * (k : Int) + 1) * 16384 / (n : Int) + 1) / 2)) 15 + 1) / 2)) := fun k => rfl
    generalize winAt n = f at HF ⊢
    go_enter Tryd.func25, Tryd.ntmps25
    go_wp2
    go_loopw [3, 4, 5] (fun v k _ W => ∃ m : Nat, m ≤ n ∧ k = .int .i64 m ∧ W.ownsRow w.heap.size 2 1 v m (((List.range m).map f).map (Value.int .i64)) ∧ Below w.heap.size w W) (fun _ k _ _ => n - (intOf k).toNat)
    case atStart => exact ⟨0, Nat.zero_le _, rfl, World.ownsRow_nil _ _ _ _, Below.refl _ _⟩
    case round =>
      obtain ⟨m, hm, rfl, hown, hbel⟩ := hrel
      by_cases hlt : m < n
      · have hf := HF.out m
        have hq := ang_in (l := (n : Int)) (k := m) (by omega) (by omega)
        have hs := sinI_in (((2 * (m : Int) + 1) * 16384 / (n : Int) + 1) / 2)
        have hsq := sq15_in _ hs.1 hs.2
        generalize hS : sinI (((2 * (m : Int) + 1) * 16384 / (n : Int) + 1) / 2) = S at hf hs hsq
        have hS' : Hid (sinI (((2 * (m : Int) + 1) * 16384 / (n : Int) + 1) / 2) = S) := hS
        have HFm : Hid (sinI ((mulI S S 15 + 1) / 2) = f m) := hf.symm
        clear hf hS HF
        have HO : Hid (∀ W : World, Below wr.heap.size wr W → W.ownsRow w.heap.size 2 1 u3 m (((List.range m).map f).map (Value.int .i64)) ∧ Below w.heap.size w W ∧ w.heap.size ≤ W.heap.size) := fun W hW =>
          ⟨hown.kept ⟨hW.os, hW.tape, hW.output, hW.size, fun k hk _ => hW.block k hk⟩ (row := none) (by cases hv : Value.ownBlock u3 <;> simp), hbel.trans (hW.mono hbel.size), Nat.le_trans hbel.size hW.size⟩
        have hb := Below.refl wr.heap.size wr
        clear hown hbel
        go_wp2_with (first
          | (go_at_call 38; refine (rmul_any _ _ _ _).mono ?_; rintro e w' ⟨rfl, rfl⟩)
          | (go_at_call 37; refine (rsin_any _ _).mono ?_; rw [hS'.out]; rintro e w1 ⟨rfl, hw1⟩; have hb1 := hb.trans (hw1.mono hb.size); clear hw1 hb)
          | (go_at_call 37; refine (rsin_any _ _).mono ?_; rw [HFm.out]; rintro e w2 ⟨rfl, hw2⟩; have hb2 := hb1.trans (hw2.mono hb1.size); clear hw2 hb1; obtain ⟨o1, o2, o3⟩ := HO.out _ hb2; clear HO)
          | (at_builtin; refine wpList_append_one 26 2 Tryd.underlying26 info_int64 w.heap.size _ m ((List.range m).map f) _ o1 (by omega) o3 rfl _ _ rfl rfl rfl ?_; rw [← map_range_snoc]; intro v' w3 hown1 hb3; clear o1; have hb4 := o2.trans hb3; clear o2 hb3))
        go_roundw
        case rel => exact ⟨m + 1, by omega, by go_num, hown1, hb4⟩
        case measure => simp [intOf]; omega
      · have hm' : m = n := by omega
        subst hm'
        obtain ⟨_, a, c, rfl, hnew⟩ := NewRow.of_owned hown
        clear hown HF
        go_wp2
        go_ret
        exact ⟨_, _, rfl, hnew, hbel⟩

end Go.Proofs.YtjcbcmloenhohaaDoor
