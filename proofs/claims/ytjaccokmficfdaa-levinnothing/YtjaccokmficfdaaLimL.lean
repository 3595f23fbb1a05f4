/- The document's list of clamped numbers. -/
import Derived.Test.YtjaccokmficfdaaNumB
import Derived.Test.YtjaccokmficfdaaMA
import Derived.OwnWalk
namespace Go.Proofs.Ytjaccokmficfdaa
open Go.RowKit

def limL (lo hi : Int) (zs : List Int) : List Int := zs.map (fun z => clampI z lo hi)
theorem limL_len (lo hi : Int) (zs : List Int) : (limL lo hi zs).length = zs.length := by unfold limL; rw [List.length_map]
theorem limL_at {lo hi : Int} {zs : List Int} {j : Nat} (h : j < zs.length) : (limL lo hi zs)[j]?.getD 0 = clampI (zs[j]?.getD 0) lo hi := by
  unfold limL
  rw [List.getElem?_map, List.getElem?_eq_getElem h]
  rfl

set_option maxHeartbeats 1000000 in
theorem rlim_any (a : Option Addr) (n cap : Nat) (zs : List Int) (lo hi : Int) (w : World) (hz : Zs w a n zs) (hn : n ≤ 1000000) :
    Calls Try.prog 30 #[.slice a n cap, .int .i64 lo, .int .i64 hi] w fun e w' => ∃ a' c', e = .returned (.slice a' n c') ∧ NewRow 2 w.heap.size w' a' (limL lo hi zs) ∧ Below w.heap.size w w' := by
  have hl := hz.len
  have HZ : Hid (∀ W, Below w.heap.size w W → Zs W a n zs) := fun W hb => hz.keep hb
  have HF : Hid (∀ j, j < n → (limL lo hi zs)[j]?.getD 0 = clampI (zs[j]?.getD 0) lo hi) := fun j hj => limL_at (by omega)
  have HL : Hid ((limL lo hi zs).length = n) := by show _ = _; rw [limL_len, hl]
  clear hz hl
  generalize limL lo hi zs = f at *
  go_enter Try.func30, Try.ntmps30
  go_wp2
  go_loopw [7, 8] (fun v k W => ∃ m : Nat, m ≤ n ∧ k = .int .i64 m ∧ W.ownsRow w.heap.size 2 1 v m ((f.take m).map (Value.int .i64)) ∧ Below w.heap.size w W) (fun _ k _ => n - (intOf k).toNat)
  case atStart => exact ⟨0, Nat.zero_le _, rfl, World.ownsRow_nil _ _ _ _, Below.refl _ _⟩
  case round =>
    obtain ⟨m, hm, rfl, hown, hbel⟩ := hrel
    by_cases hlt : m < n
    · obtain ⟨b, off, rfl, hb, hc⟩ := (HZ.out wr hbel).at_ (by omega)
      have hcm := hc m hlt
      have HFm : Hid (clampI (zs[m]?.getD 0) lo hi = f[m]?.getD 0) := (HF.out m hlt).symm
      have HT : Hid (f.take m ++ [f[m]?.getD 0] = f.take (m + 1)) := (take_snoc (by rw [HL.out]; exact hlt)).symm
      generalize zs[m]?.getD 0 = z at hcm HFm
      have hB := hbel.size
      clear HF hc HZ
      go_wp2_with (first
        | (go_at_call 31; refine (rclamp_any _ _ _ _).mono ?_; rw [HFm.out]; rintro e w' ⟨rfl, rfl⟩)
        | (at_builtin; refine wpList_append_one 23 2 Try.underlying23 info_int64 w.heap.size _ m (f.take m) _ hown (by omega) hB rfl _ _ rfl rfl rfl ?_; rw [HT.out]; intro v' w1 hown1 hb1; clear hown; have hb2 := hbel.trans hb1; clear hbel hb1))
      go_roundw
      case rel => exact ⟨m + 1, by omega, by go_num, hown1, hb2⟩
      case measure => simp [intOf]; omega
    · have hm' : m = n := by omega
      subst hm'
      rw [List.take_of_length_le (by rw [HL.out]; omega)] at hown
      obtain ⟨_, a', c', rfl, hnew⟩ := NewRow.of_owned hown
      clear hown HF HZ
      go_wp2
      go_ret
      exact ⟨_, _, rfl, hnew, hbel⟩

end Go.Proofs.Ytjaccokmficfdaa
