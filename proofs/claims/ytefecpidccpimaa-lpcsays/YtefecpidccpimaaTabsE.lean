/- Frequencies of the first table: what package tabs, and the document's own answer, come to. -/
import Derived.Test.YtefecpidccpimaaTabsB
namespace Go.Proofs.Ytefecpidccpimaa
open Go.RowKit

def lsfAt (order i : Int) (k : Nat) : Int := 32768 * ((k : Int) + 1) / (order + 1) + spreadI order * ((37 * i + 53 * (k : Int)) % 64 - 32)
abbrev lsfNone (order i : Int) : Prop := (¬ order = 10 ∧ ¬ order = 16) ∨ i < 0 ∨ 15 < i
def lsfL (order i : Int) : List Int := if lsfNone order i then [] else (List.range order.toNat).map (lsfAt order i)

theorem map_range_at (f : Nat → Int) (n i : Nat) (h : i < n) : ((List.range n).map f)[i]?.getD 0 = f i := by
  simp [h]

theorem map_range_snoc (f : Nat → Int) (n : Nat) : (List.range (n + 1)).map f = (List.range n).map f ++ [f n] := by
  rw [List.range_succ, List.map_append]; rfl

theorem lsf_some {order i : Int} (h : order = 10 ∨ order = 16) (h0 : 0 ≤ i) (h1 : i ≤ 15) : lsfL order i = (List.range order.toNat).map (lsfAt order i) := by
  rw [lsfL, if_neg]
  unfold lsfNone
  omega

theorem quot_in {m n : Int} (h0 : 0 ≤ m) (h : m < n) : 0 ≤ 32768 * (m + 1) / (n + 1) ∧ 32768 * (m + 1) / (n + 1) ≤ 32768 := by
  refine ⟨Int.ediv_nonneg (by omega) (by omega), ?_⟩
  have h1 : 32768 * (m + 1) / (n + 1) < 32769 := Int.ediv_lt_of_lt_mul (by omega) (by omega)
  omega

theorem spread_in {S y : Int} (hs : 14 ≤ S ∧ S ≤ 24) (hy : -32 ≤ y ∧ y ≤ 31) : -768 ≤ S * y ∧ S * y ≤ 768 := by
  have h : (S * y).natAbs ≤ 24 * 32 := by
    rw [Int.natAbs_mul]
    exact Nat.mul_le_mul (by omega) (by omega)
  omega

theorem rowIs_step {w : World} {b n m : Nat} {t : TypeId} {f : Nat → Int} (h : w.rowIs b t n (fun j => .int .i64 (if j < m then f j else 0))) (_hm : m < n) :
    (w.setCell ⟨b, m, .none⟩ (.int .i64 (f m))).rowIs b t n (fun j => .int .i64 (if j < m + 1 then f j else 0)) := by
  refine (h.set m (.int .i64 (f m))).congr fun j _ => ?_
  by_cases hj : j = m
  · subst hj
    rw [if_pos rfl, if_pos (by omega)]
  · rw [if_neg hj]
    by_cases hlt : j < m
    · rw [if_pos hlt, if_pos (by omega)]
    · rw [if_neg hlt, if_neg (by omega)]

theorem rlsf_any (order i : Int) (w : World) :
    Calls Try.prog 22 #[.int .i64 order, .int .i64 i] w fun e w' => ∃ a cap, e = .returned (.slice a (lsfL order i).length cap) ∧ NewRow 2 w.heap.size w' a (lsfL order i) ∧ Below w.heap.size w w' := by
  by_cases h : lsfNone order i
  · have e : lsfL order i = [] := by rw [lsfL, if_pos h]
    rw [e]; clear e
    unfold lsfNone at h
    have h3 : (¬ order = 10 ∧ ¬ order = 16) ∨ i < 0 ∨ 15 < i := h
    clear h
    rcases h3 with ⟨n1, n2⟩ | hi | hi
    case' inl =>
      have q1 : (order != 10) = true := by rw [bne_iff_ne]; exact n1
      have q2 : (order != 16) = true := by rw [bne_iff_ne]; exact n2
    all_goals
      go_enter Try.func22, Try.ntmps22
      go_wp2
      all_goals
        go_ret
        exact ⟨_, _, rfl, .none, Below.refl _ _⟩
  · have h16 : order = 10 ∨ order = 16 := by unfold lsfNone at h; omega
    have h0 : 0 ≤ i := by unfold lsfNone at h; omega
    have h1 : i ≤ 15 := by unfold lsfNone at h; omega
    clear h
    rw [lsf_some h16 h0 h1]
    rcases h16 with rfl | rfl
    · have hlen : ((List.range ((10 : Int)).toNat).map (lsfAt 10 i)).length = 10 := by simp
      rw [hlen]; clear hlen
      rw [show ((10 : Int)).toNat = 10 from rfl]
      have HF : Hid (∀ k : Nat, lsfAt 10 i k = 32768 * ((k : Int) + 1) / 11 + 24 * ((37 * i + 53 * (k : Int)) % 64 - 32)) := fun k => rfl
      generalize lsfAt 10 i = f at HF ⊢
      go_enter Try.func22, Try.ntmps22
      go_wp2
      go_loopw [6, 7] (fun v k W => ∃ m : Nat, m ≤ 10 ∧ k = .int .i64 m ∧ W.ownsRow w.heap.size 2 1 v m (((List.range m).map f).map (Value.int .i64)) ∧ Below w.heap.size w W) (fun _ k _ => 10 - (intOf k).toNat)
      case atStart => exact ⟨0, Nat.zero_le _, rfl, World.ownsRow_nil _ _ _ _, Below.refl _ _⟩
      case round =>
        obtain ⟨m, hm, rfl, hown, hbel⟩ := hrel
        by_cases hlt : m < 10
        · have HFm : Hid (32768 * ((m : Int) + 1) / 11 + 24 * ((37 * i + 53 * (m : Int)) % 64 - 32) = f m) := (HF.out m).symm
          have hB := hbel.size
          clear HF
          go_wp2_with (at_builtin; refine wpList_append_one 23 2 Try.underlying23 info_int64 w.heap.size _ m ((List.range m).map f) _ hown (by omega) hB rfl _ _ rfl rfl rfl ?_; rw [HFm.out, ← map_range_snoc]; intro v' w1 hown1 hb1; clear hown; have hb2 := hbel.trans hb1; clear hbel hb1)
          go_roundw
          case rel => exact ⟨m + 1, by omega, by go_num, hown1, hb2⟩
          case measure => simp [intOf]; omega
        · have hm' : m = 10 := by omega
          subst hm'
          obtain ⟨_, a, c, rfl, hnew⟩ := NewRow.of_owned hown
          clear hown HF
          go_wp2
          go_ret
          exact ⟨_, _, rfl, hnew, hbel⟩
    · have hlen : ((List.range ((16 : Int)).toNat).map (lsfAt 16 i)).length = 16 := by simp
      rw [hlen]; clear hlen
      rw [show ((16 : Int)).toNat = 16 from rfl]
      have HF : Hid (∀ k : Nat, lsfAt 16 i k = 32768 * ((k : Int) + 1) / 17 + 14 * ((37 * i + 53 * (k : Int)) % 64 - 32)) := fun k => rfl
      generalize lsfAt 16 i = f at HF ⊢
      go_enter Try.func22, Try.ntmps22
      go_wp2
      go_loopw [6, 7] (fun v k W => ∃ m : Nat, m ≤ 16 ∧ k = .int .i64 m ∧ W.ownsRow w.heap.size 2 1 v m (((List.range m).map f).map (Value.int .i64)) ∧ Below w.heap.size w W) (fun _ k _ => 16 - (intOf k).toNat)
      case atStart => exact ⟨0, Nat.zero_le _, rfl, World.ownsRow_nil _ _ _ _, Below.refl _ _⟩
      case round =>
        obtain ⟨m, hm, rfl, hown, hbel⟩ := hrel
        by_cases hlt : m < 16
        · have HFm : Hid (32768 * ((m : Int) + 1) / 17 + 14 * ((37 * i + 53 * (m : Int)) % 64 - 32) = f m) := (HF.out m).symm
          have hB := hbel.size
          clear HF
          go_wp2_with (at_builtin; refine wpList_append_one 23 2 Try.underlying23 info_int64 w.heap.size _ m ((List.range m).map f) _ hown (by omega) hB rfl _ _ rfl rfl rfl ?_; rw [HFm.out, ← map_range_snoc]; intro v' w1 hown1 hb1; clear hown; have hb2 := hbel.trans hb1; clear hbel hb1)
          go_roundw
          case rel => exact ⟨m + 1, by omega, by go_num, hown1, hb2⟩
          case measure => simp [intOf]; omega
        · have hm' : m = 16 := by omega
          subst hm'
          obtain ⟨_, a, c, rfl, hnew⟩ := NewRow.of_owned hown
          clear hown HF
          go_wp2
          go_ret
          exact ⟨_, _, rfl, hnew, hbel⟩

end Go.Proofs.Ytefecpidccpimaa
