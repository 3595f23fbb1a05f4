/- What every row of layer 5 shares: the listed table of configs, read off the row's own condition; the door's own heap. -/
import Derived.Test.YtgiellpepnbpcaaDoorTocT
import Derived.Test.YtgiellpepnbpcaaDoorTie
import Derived.LaidMore
import Derived.Stop.Joined
import Derived.Lib.LaidTab
import Derived.ProofKit
import Derived.ChangeOld
import Derived.Deep.Strs
namespace Go.Proofs.YtgiellpepnbpcaaDoor
open Go.ChangeShapes Go.WideShapes Go.ChangeAt Go.RowKit

theorem door_met (os : Os) (args : Array Value) : laidMetH Tryd.prog [("madrigal/toc.configs", Rows.laid_madrigal_toc_configs)] ((World.doorLaid Tryd.prog 400 os).forCall (fun _ _ => 0) ⟨#[], args, []⟩).memory :=
  laidMetH_of_parts3 (fuel := 8) (laidMet_of_run' 8 (by kernel_rfl) (by kernel_rfl)) (by kernel_rfl) (by kernel_rfl)

theorem trod_rows {W : World} {t e : TypeId} {n ce ct fuel : Nat} {cs : List Value} {ds : List (DataW Unit)} {p : List MemPlace} (ht : Tryd.prog.underlying t = some (.array n e)) (hce : Tryd.prog.cellsOf e = ce) (hct : Tryd.prog.cellsOf t = ct)
    (h : DataW.trod (fun _ => ()) Tryd.prog W 0 (fun _ => true) false fuel t cs = some (.agg ds, p)) :
    cs.length = ct ∧ ∃ m, ∀ i, i < n → ∃ d q, ds[i]? = some d ∧ DataW.trod (fun _ => ()) Tryd.prog W 0 (fun _ => true) false m e ((cs.drop (i * ce)).take ce) = some (d, q) := by
  cases fuel with
  | zero => simp [DataW.trod] at h
  | succ m =>
    simp only [DataW.trod, ht, hce, hct] at h
    split at h
    · rename_i hl
      obtain ⟨xs, hm, hx⟩ := Option.map_eq_some_iff.1 h
      have hxs : xs.map (·.1) = ds := by
        have := congrArg Prod.fst hx
        simpa using this
      refine ⟨hl, m, fun i hi => ?_⟩
      obtain ⟨b, hb, hf⟩ := Lib.mapM_at hm i i (by simp [hi])
      exact ⟨b.1, b.2, by rw [← hxs]; simp [hb], hf⟩
    · cases h

def cfgD (n : Nat) : DataW Unit := .agg [.lit (.int .i64 (modeN n)), .lit (.int .i64 (rateN n)), .lit (.int .i64 (msN n))]
theorem laid_is : (Rows.laid_madrigal_toc_configs : DataW Unit) = .agg ((List.range 12).map cfgD) := rfl

theorem cfg_ints : ∀ i : Nat, i < 12 → cfgInts[i * 3]? = some (modeN i : Int) ∧ cfgInts[i * 3 + 1]? = some (rateN i : Int) ∧ cfgInts[i * 3 + 2]? = some (msN i : Int)
  | 0, _ | 1, _ | 2, _ | 3, _ | 4, _ | 5, _ | 6, _ | 7, _ | 8, _ | 9, _ | 10, _ | 11, _ => ⟨rfl, rfl, rfl⟩
  | n + 12, h => absurd h (by omega)

theorem cell_of_part {cs : List Value} {i j : Nat} {v : Value} (h : (((cs.drop (i * 3)).take 3).drop j).take 1 = [v]) (hj : j < 3) : cs[i * 3 + j]? = some v := by
  have h1 := congrArg (·[0]?) h
  simp only [List.getElem?_cons_zero] at h1
  rw [List.getElem?_take_of_lt (by decide), List.getElem?_drop, Nat.add_zero, List.getElem?_take_of_lt hj, List.getElem?_drop] at h1
  exact h1

theorem cfg_reads {W : World} {cs : List Value} {fuel : Nat} {p : List MemPlace}
    (h : DataW.trod (fun _ => ()) Tryd.prog W 0 (fun _ => true) false fuel 60 cs = some (.agg ((List.range 12).map cfgD), p)) : cs = cfgInts.map (Value.int .i64) := by
  obtain ⟨hl, m, hall⟩ := trod_rows (ce := 3) (ct := 36) Tryd.underlying60 (by kernel_rfl) (by kernel_rfl) h
  have hint : Tryd.prog.cellsOf 3 = 1 := by kernel_rfl
  apply List.ext_getElem?
  intro j
  by_cases hj : j < 36
  · obtain ⟨i, r, hi, hr, rfl⟩ : ∃ i r, i < 12 ∧ r < 3 ∧ j = i * 3 + r := ⟨j / 3, j % 3, by omega, by omega, by omega⟩
    obtain ⟨d, q, hd, ht⟩ := hall i hi
    have hd' : d = cfgD i := by
      simp [hi] at hd
      exact hd.symm
    subst hd'
    obtain ⟨y0, y1, y2, n, hx, _, t0, t1, t2⟩ := Deep.trod_struct3 Tryd.underlying31 ht
    obtain ⟨z0, hz0, hq0, _⟩ := DataW.trod_int Tryd.underlying3 t0
    obtain ⟨z1, hz1, hq1, _⟩ := DataW.trod_int Tryd.underlying3 t1
    obtain ⟨z2, hz2, hq2, _⟩ := DataW.trod_int Tryd.underlying3 t2
    have hx1 := congrArg Prod.fst hx
    subst hq0; subst hq1; subst hq2
    simp only [cfgD, DataW.agg.injEq, List.cons.injEq, DataW.lit.injEq, Lit.int.injEq, true_and, and_true] at hx1
    obtain ⟨e0, e1, e2⟩ := hx1
    obtain ⟨c0, c1, c2⟩ := cfg_ints i hi
    rw [List.getElem?_map]
    match r, hr with
    | 0, _ => rw [Nat.add_zero, c0]; rw [e0]; exact cell_of_part (j := 0) hz0 (by decide)
    | 1, _ => rw [c1, e1]; exact cell_of_part (j := 1) hz1 (by decide)
    | 2, _ => rw [c2, e2]; exact cell_of_part (j := 2) hz2 (by decide)
    | r + 3, hr => exact absurd hr (by omega)
  · rw [List.getElem?_eq_none (by omega), List.getElem?_eq_none (by
      have : (cfgInts.map (Value.int .i64)).length = 36 := rfl
      omega)]

theorem cfg_of_laid {W : World} (h : laidMetH Tryd.prog [("madrigal/toc.configs", Rows.laid_madrigal_toc_configs)] W) : CfgAt W := by
  rw [MakeChecks.laidMetH_plain _ _ _ (by kernel_rfl)] at h
  obtain ⟨ps, ⟨g, t, cs, fuel, p, q, hg, ht, hv, hd, _, _⟩, _⟩ := h
  have hg' : Tryd.prog.globalNamed "madrigal/toc.configs" = some 0 := by kernel_rfl
  have ht' : (Tryd.prog.globals[0]?).map (·.type) = some 60 := by kernel_rfl
  obtain rfl := Option.some.inj (hg'.symm.trans hg)
  obtain rfl := Option.some.inj (ht'.symm.trans ht)
  have hc := cfg_reads (p := p) hd
  unfold World.var? at hv
  rw [hg'] at hv
  simp only [Option.bind_some] at hv
  split at hv
  · rename_i c ty fr he
    cases hv
    refine ⟨ty, fr, he.trans ?_⟩
    rw [cfg_arr, ← hc]
  · cases hv

end Go.Proofs.YtgiellpepnbpcaaDoor
