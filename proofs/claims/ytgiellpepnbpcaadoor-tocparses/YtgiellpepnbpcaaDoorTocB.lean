/- What package toc's small calls come to: configs and their numbers. -/
import Derived.Test.YtgiellpepnbpcaaDoorTocA
import Derived.Deep.MidRow
namespace Go.Proofs.YtgiellpepnbpcaaDoor
open Go.RowKit

theorem cfg_three : ∀ n : Nat, n < 12 → cfgArr[n * 3]? = some (.int .i64 (modeN n)) ∧ cfgArr[n * 3 + 1]? = some (.int .i64 (rateN n)) ∧ cfgArr[n * 3 + 2]? = some (.int .i64 (msN n))
  | 0, _ | 1, _ | 2, _ | 3, _ | 4, _ | 5, _ | 6, _ | 7, _ | 8, _ | 9, _ | 10, _ | 11, _ => ⟨rfl, rfl, rfl⟩
  | n + 12, h => absurd h (by omega)

theorem of_bad (c : Int) (hc : c < 0 ∨ 11 < c) (w : World) :
    Calls Tryd.prog 11 #[.int .i64 c] w fun e w' => e = .returned (.tuple #[.agg #[.int .i64 0, .int .i64 0, .int .i64 0], .int .i64 1]) ∧ Below w.heap.size w w' := by
  rcases hc with hc | hc
  all_goals
    go_enter Tryd.func11, Tryd.ntmps11
    go_wp2
    all_goals
      exact bodyPost_ret (v := .tuple #[.agg #[.int .i64 0, .int .i64 0, .int .i64 0], .int .i64 1]) (by simp [results, Tryd.results11, go_sem]) rfl ⟨rfl, (Below.refl _ _).alloc (Nat.le_refl _) _⟩

theorem of_good (n : Nat) (hn : n < 12) (w : World) (h : CfgAt w) :
    Calls Tryd.prog 11 #[.int .i64 (n : Nat)] w fun e w' => e = .returned (.tuple #[.agg #[.int .i64 (modeN n), .int .i64 (rateN n), .int .i64 (msN n)], .int .i64 0]) ∧ Below w.heap.size w w' := by
  obtain ⟨ty, fr, hg⟩ := h
  obtain ⟨g0, g1, g2⟩ := cfg_three n hn
  have hnew : ∀ o : Obj, (w.alloc o).heap[0]? = some (.cells cfgArr ty fr) := fun o => by
    rw [Below.heap_alloc w o _ (Array.getElem?_eq_some_iff.1 hg).1]; exact hg
  have HG : ∀ o : Obj, ∀ j v, cfgArr[j]? = some v → (w.alloc o).cell? ⟨0, j, none⟩ = some v := fun o j v hv =>
    (cell_of_row _ _ j cfgArr ty fr (hnew o)).trans hv
  have c0 := fun o => HG o _ _ g0
  have c1 := fun o => HG o _ _ g1
  have c2 := fun o => HG o _ _ g2
  clear hg hnew HG g0 g1 g2
  have hn0 : (0 : Int) ≤ n := by omega
  go_enter Tryd.func11, Tryd.ntmps11
  go_wp2
  refine bodyPost_ret (v := .tuple #[.agg #[.int .i64 (modeN n), .int .i64 (rateN n), .int .i64 (msN n)], .int .i64 0]) (by simp [results, Tryd.results11, go_sem]) rfl ⟨rfl, ?_⟩

  exact (Below.refl _ _).alloc (Nat.le_refl _) _

def cfgL : List Value := cfgInts.map (Value.int .i64)
def cfgV (n : Nat) : Value := .agg #[.int .i64 (modeN n), .int .i64 (rateN n), .int .i64 (msN n)]

theorem idx_cfg : ∀ m : Nat, m < 12 → ∀ W : World, (Instr.index 60 (.agg cfgL.toArray) (.int .i64 (m : Nat))).run Tryd.prog W = .ok (.agg #[.int .i64 (modeN m), .int .i64 (rateN m), .int .i64 (msN m)]) W
  | 0, _, W | 1, _, W | 2, _, W | 3, _, W | 4, _, W | 5, _, W | 6, _, W | 7, _, W | 8, _, W | 9, _, W | 10, _, W | 11, _, W => by kernel_rfl
  | n + 12, h, _ => absurd h (by omega)

/-- Is it the n-th? -/
def isCfg (x y z : Int) (n : Nat) : Prop := x = modeN n ∧ y = rateN n ∧ z = msN n

theorem number_any (x y z : Int) (w : World) (h : CfgAt w) :
    Calls Tryd.prog 12 #[.agg #[.int .i64 x, .int .i64 y, .int .i64 z]] w fun e w' => (∃ n err : Nat, e = .returned (.tuple #[.int .i64 n, .int .i64 err]) ∧ ((err = 0 ∧ n < 12 ∧ isCfg x y z n ∧ ∀ j, j < n → ¬ isCfg x y z j) ∨ (err = 1 ∧ n = 0 ∧ ∀ j, j < 12 → ¬ isCfg x y z j))) ∧ Below w.heap.size w w' := by
  obtain ⟨ty, fr, hg⟩ := h
  have hnew : ∀ o : Obj, (w.alloc o).heap[0]? = some (.cells cfgArr ty fr) := fun o => by
    rw [Below.heap_alloc w o _ (Array.getElem?_eq_some_iff.1 hg).1]; exact hg
  have HR : Hid (∀ o : Obj, (w.alloc o).rangeAt 0 0 cfgL) := fun o j v hv => by
    rw [Nat.zero_add]
    exact (cell_of_row _ _ j cfgArr ty fr (hnew o)).trans ((Array.getElem?_toList ..).symm.trans hv)
  have HI : Hid ((Tryd.prog.info? 60).map (·.size) = some cfgL.length) := by show _ = _; kernel_rfl
  have hlt0 := (Array.getElem?_eq_some_iff.1 hg).1
  clear hg hnew
  go_enter Tryd.func12, Tryd.ntmps12
  go_wp2_with (refine wpList_load_mid rfl 60 _ rfl 0 0 rfl cfgL _ (HR.out _) Tryd.underlying60 rfl HI.out ?_)
  go_loopw [7] (fun i W => Below w.heap.size w W ∧ W.cell? ⟨w.heap.size, 0, none⟩ = some (.int .i64 x) ∧ W.cell? ⟨w.heap.size, 1, none⟩ = some (.int .i64 y) ∧ W.cell? ⟨w.heap.size, 2, none⟩ = some (.int .i64 z) ∧ w.heap.size < W.heap.size ∧ ∃ m : Nat, m ≤ 12 ∧ i = .int .i64 m ∧ Hid (∀ j, j < m → ¬ isCfg x y z j)) (fun i _ => 12 - (intOf i).toNat)
  case atStart => exact ⟨(Below.refl _ _).alloc (Nat.le_refl _) _, by rw [World.cell?_alloc_new]; rfl, by rw [World.cell?_alloc_new]; rfl, by rw [World.cell?_alloc_new]; rfl, by simp, 0, Nat.zero_le _, rfl, fun j hj => absurd hj (by omega)⟩
  case round =>
    obtain ⟨hb, q0, q1, q2, hsz, m, hm, rfl, HN⟩ := hrel
    by_cases hlt : m < 12
    · have hidx := idx_cfg m hlt
      have r0 : ∀ o, (wr.alloc o).cell? ⟨w.heap.size, 0, none⟩ = some (.int .i64 x) := fun o => (World.cell?_of_block (w := wr) (Below.heap_alloc wr o _ hsz)).trans q0
      have r1 : ∀ o, (wr.alloc o).cell? ⟨w.heap.size, 1, none⟩ = some (.int .i64 y) := fun o => (World.cell?_of_block (w := wr) (Below.heap_alloc wr o _ hsz)).trans q1
      have r2 : ∀ o, (wr.alloc o).cell? ⟨w.heap.size, 2, none⟩ = some (.int .i64 z) := fun o => (World.cell?_of_block (w := wr) (Below.heap_alloc wr o _ hsz)).trans q2
      have HM : Hid (12 - (m + 1) < 12 - m) := by show _ < _; omega
      by_cases hc : isCfg x y z m
      · obtain ⟨rfl, rfl, rfl⟩ := hc
        go_wp2
        go_ret2
        exact ⟨⟨m, 0, rfl, .inl ⟨rfl, hlt, ⟨rfl, rfl, rfl⟩, HN.out⟩⟩, hb.alloc hb.size _⟩
      · have HC : Hid (¬ isCfg x y z m) := hc
        clear hc
        go_wp2
        all_goals
          first
            | exact absurd ⟨Eq.symm (by assumption), Eq.symm (by assumption), Eq.symm (by assumption)⟩ HC.out
            | (go_roundw
               case rel => exact ⟨hb.alloc hb.size _, r0 _, r1 _, r2 _, by simp; omega, m + 1, by omega, by go_num, fun j hj => (Nat.lt_or_ge j m).elim (HN.out j) (fun hj2 => (by obtain rfl : j = m := (by omega); exact HC.out))⟩
               case measure => simp [intOf]; omega)
    · obtain rfl : m = 12 := by omega
      go_wp2
      go_ret2
      exact ⟨⟨0, 1, rfl, .inr ⟨rfl, rfl, HN.out⟩⟩, hb⟩

theorem cfg_apart : ∀ m : Nat, m < 12 → ∀ n : Nat, n < 12 → modeN m = modeN n → rateN m = rateN n → msN m = msN n → m = n := by decide

theorem tooLong_any (m : Nat) (c : Nat) (w : World) (a b : Int) (hm : m ≤ 9223372036854775807) :
    Calls Tryd.prog 23 #[.int .i64 (m : Nat), .agg #[.int .i64 a, .int .i64 b, .int .i64 (msN c : Nat)]] w fun e w' => e = .returned (.bool (decide (120 < m * msN c))) ∧ Below w.heap.size w w' := by
  have h10 := msN_in c
  have hc : msN c = 10 ∨ msN c = 20 := by unfold msN; omega
  generalize msN c = s at *
  have HE : Hid (decide (120 / (s : Int) < (m : Int)) = decide (120 < m * s)) := by
    show _ = _
    rcases hc with rfl | rfl
    · rw [decide_eq_decide]; omega
    · rw [decide_eq_decide]; omega
  have h0 : ¬ (s : Int) = 0 := by omega
  have hq : 0 ≤ 120 / (s : Int) ∧ 120 / (s : Int) ≤ 12 := by rcases hc with rfl | rfl <;> decide
  clear hc
  go_enter Tryd.func23, Tryd.ntmps23
  go_wp2
  go_ret
  exact ⟨by rw [← HE.out]; rfl, (Below.refl _ _).alloc (Nat.le_refl _) _⟩

end Go.Proofs.YtgiellpepnbpcaaDoor
