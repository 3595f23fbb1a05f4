/- What every row over package tabs shares: the two listed variables read off the row's own condition, the door's own heap, a slice of numbers that came in. -/
import Derived.Test.YtjcbcmloenhohabDoorTabsC
import Derived.Test.YtjcbcmloenhohabDoorTabsD
import Derived.Test.YtjcbcmloenhohabDoorTabsG
import Derived.Test.YtjcbcmloenhohabDoorTabsI
import Derived.LaidMore
import Derived.Stop.Joined
import Derived.Lib.LaidTab
import Derived.ProofKit
import Derived.OpenShut
import Derived.ChangeOld
namespace Go.Proofs.YtjcbcmloenhohabDoor
open Go.ChangeShapes Go.WideShapes Go.ChangeAt Go.RowKit

theorem own : ownKnob Tryd.prog.godebug = none := by kernel_rfl
theorem laidOut : laidOutB Tryd.prog = true := by kernel_rfl

theorem door_met (os : Os) (args : Array Value) : laidMetH Tryd.prog [("madrigal/tabs.edges", Rows.laid_madrigal_tabs_edges), ("madrigal/tabs.taps", Rows.laid_madrigal_tabs_taps)] ((World.doorLaid Tryd.prog 400 os).forCall (fun _ _ => 0) ⟨#[], args, []⟩).memory :=
  laidMetH_of_parts3 (fuel := 8) (laidMet_of_run' 8 (by kernel_rfl) (by kernel_rfl)) (by kernel_rfl) (by kernel_rfl)

def edgesD : DataW Unit := .slice (edgesL.map fun z => .lit (.int .i64 z)) []

theorem edges_reads {W : World} {cs : Array Value} {fuel : Nat} {p : List MemPlace} (hv : W.var? Tryd.prog "madrigal/tabs.edges" = some cs)
    (h : DataW.trod (fun _ => ()) Tryd.prog W 0 (fun _ => true) false fuel 23 cs.toList = some (edgesD, p)) : EdgesAt W := by
  have hg : Tryd.prog.globalNamed "madrigal/tabs.edges" = some 0 := by kernel_rfl
  have hc1 : Tryd.prog.cellsOf 3 = 1 := by kernel_rfl
  rcases DataW.trod_slice Tryd.underlying23 h with ⟨_, hx⟩ | ⟨a, len, cap, el, rs, m, _, hcs, hx, _, hlc, _, hel, helem, hsp, _⟩
  · cases hx
  have e0 : (edgesD : DataW Unit) = .slice (el.map (·.1)) (rs.map (·.1)) := congrArg Prod.fst hx
  unfold edgesD at e0
  simp only [DataW.slice.injEq] at e0
  obtain ⟨eE, eR⟩ := e0
  have hlen : len = 20 := by
    have h1 := congrArg List.length eE
    simp [edgesL] at h1
    omega
  have hcap : cap = 20 := by
    have h1 := congrArg List.length eR
    have h2 := (hsp rfl).1
    simp at h1
    omega
  subst hlen
  subst hcap
  have hcell : ∀ i, i < edgesL.length → W.cell? (a.add i) = some (.int .i64 (edgesL.getD i 0)) := fun i hi => by
    have hi20 : i < 20 := hi
    have h1 := helem i hi20
    rw [hc1] at h1
    obtain ⟨q, hq⟩ : ∃ q, el[i]? = some q := ⟨el[i]'(by omega), List.getElem?_eq_getElem (by omega)⟩
    rw [hq] at h1
    obtain ⟨ce, hce, hte⟩ := Option.bind_eq_some_iff.1 h1
    obtain ⟨z, hz, hqz, _⟩ := DataW.trod_int Tryd.underlying3 hte
    have h2 := congrArg (·[i]?) eE
    simp only [List.getElem?_map, hq, List.getElem?_eq_getElem hi, Option.map_some, Option.some.injEq] at h2
    rw [hqz] at h2
    simp only [DataW.lit.injEq, Lit.int.injEq, true_and] at h2
    obtain ⟨_, _, hcc⟩ := World.cells?_some hce
    have h3 := hcc 0 (by omega)
    rw [hz] at h3
    simp only [Nat.mul_one] at h3
    have e1 : (a.add i).add 0 = a.add i := by simp [Addr.add]
    rw [e1] at h3
    rw [h3, ← h2]
    simp [List.getD, List.getElem?_eq_getElem hi]
  obtain ⟨b, off, rfl, hcb⟩ := ints_at hcell (by decide)
  refine ⟨b, off, World.block_lt_of_cell? W _ (hcb 0 (by decide)), ?_, fun i hi => by rw [hcb i hi]; rfl⟩
  rw [World.var?_cell hg hv 0, ← Array.getElem?_toList, hcs]
  rfl

theorem edges_of_laid {W : World} {r : List (String × DataW Unit)} (h : laidMet Tryd.prog (("madrigal/tabs.edges", Rows.laid_madrigal_tabs_edges) :: r) W) : EdgesAt W := by
  obtain ⟨ps, ⟨g, t, cs, fuel, p, q, hg, ht, hv, hd, _, _⟩, _⟩ := h
  have hg' : Tryd.prog.globalNamed "madrigal/tabs.edges" = some 0 := by kernel_rfl
  have ht' : (Tryd.prog.globals[0]?).map (·.type) = some 23 := by kernel_rfl
  obtain rfl := Option.some.inj (hg'.symm.trans hg)
  obtain rfl := Option.some.inj (ht'.symm.trans ht)
  exact edges_reads hv hd

theorem trod_rows {W : World} {t e : TypeId} {n ce ct fuel : Nat} {cs : List Value} {ds : List (DataW Unit)} {p : List MemPlace} (ht : Tryd.prog.underlying t = some (.array n e)) (hce : Tryd.prog.cellsOf e = ce) (hct : Tryd.prog.cellsOf t = ct)
    (h : DataW.trod (fun _ => ()) Tryd.prog W 0 (fun _ => true) false fuel t cs = some (.agg ds, p)) :
    cs.length = ct ∧ ∃ m, ∀ i, i < n → ∃ d q, ds[i]? = some d ∧ DataW.trod (fun _ => ()) Tryd.prog W 0 (fun _ => true) false m e ((cs.drop (i * ce)).take ce) = some (d, q) := by
  cases fuel with
  | zero => simp [DataW.trod] at h
  | succ m =>
    simp only [DataW.trod, ht, hce, hct] at h
    split at h
    · rename_i hl
      obtain ⟨xs, hm, hx⟩ := Option.map_eq_some_iff.1 h
      have hxs : xs.map (·.1) = ds := by
        have := congrArg Prod.fst hx
        simpa using this
      refine ⟨hl, m, fun i hi => ?_⟩
      obtain ⟨b, hb, hf⟩ := Lib.mapM_at hm i i (by simp [hi])
      exact ⟨b.1, b.2, by rw [← hxs]; simp [hb], hf⟩
    · cases h

def tapsD : List (DataW Unit) := (List.range 8).map fun i => Lib.tabData .i64 (tapsT i)
def tapsInts : List Int := (List.range 8).flatMap tapsT

theorem taps_ints : ∀ i, i < 8 → ∀ r, r < 5 → tapsInts[i * 5 + r]? = (tapsT i)[r]? := by decide
theorem taps_arr : tapsArr = (tapsInts.map (Value.int .i64)).toArray := rfl
theorem tapsT_len : ∀ i, i < 8 → (tapsT i).length = 5 := by decide

theorem taps_reads {W : World} {cs : List Value} {fuel : Nat} {p : List MemPlace}
    (h : DataW.trod (fun _ => ()) Tryd.prog W 0 (fun _ => true) false fuel 40 cs = some (.agg tapsD, p)) : cs = tapsInts.map (Value.int .i64) := by
  obtain ⟨hl, m, hall⟩ := trod_rows (ce := 5) (ct := 40) Tryd.underlying40 (by kernel_rfl) (by kernel_rfl) h
  apply List.ext_getElem?
  intro j
  by_cases hj : j < 40
  · obtain ⟨i, r, hi, hr, rfl⟩ : ∃ i r, i < 8 ∧ r < 5 ∧ j = i * 5 + r := ⟨j / 5, j % 5, by omega, by omega, by omega⟩
    obtain ⟨d, q, hd, ht⟩ := hall i hi
    have hd' : d = Lib.tabData .i64 (tapsT i) := by
      unfold tapsD at hd
      simp [hi] at hd
      exact hd.symm
    subst hd'
    have hc := Lib.cells_of_tab (n := 5) Tryd.underlying34 Tryd.underlying2 (by kernel_rfl) (by kernel_rfl) ht
    have h1 := congrArg (·[r]?) hc
    simp only [List.getElem?_take_of_lt hr, List.getElem?_drop, List.getElem?_map] at h1
    rw [h1, List.getElem?_map, taps_ints i hi r hr]
  · rw [List.getElem?_eq_none (by omega), List.getElem?_eq_none (by
      have : (tapsInts.map (Value.int .i64)).length = 40 := rfl
      omega)]

theorem taps_of_laid {W : World} {r : List (String × DataW Unit)} (h : laidMet Tryd.prog (("madrigal/tabs.taps", Rows.laid_madrigal_tabs_taps) :: r) W) : TapsAt W := by
  obtain ⟨ps, ⟨g, t, cs, fuel, p, q, hg, ht, hv, hd, _, _⟩, _⟩ := h
  have hg' : Tryd.prog.globalNamed "madrigal/tabs.taps" = some 1 := by kernel_rfl
  have ht' : (Tryd.prog.globals[1]?).map (·.type) = some 40 := by kernel_rfl
  obtain rfl := Option.some.inj (hg'.symm.trans hg)
  obtain rfl := Option.some.inj (ht'.symm.trans ht)
  have hc := taps_reads (p := p) hd
  unfold World.var? at hv
  rw [hg'] at hv
  simp only [Option.bind_some] at hv
  split at hv
  · rename_i c ty fr he
    cases hv
    refine ⟨ty, fr, he.trans ?_⟩
    rw [taps_arr, ← hc]
  · cases hv

theorem laid_rest {x : String × DataW Unit} {r : List (String × DataW Unit)} {W : World} (h : laidMet Tryd.prog (x :: r) W) : laidMet Tryd.prog r W := by
  obtain ⟨n, d⟩ := x
  obtain ⟨ps, ⟨g, t, cs, fuel, p, q, _, _, _, _, hq, rfl⟩, hnd, hrows⟩ := h
  exact ⟨q, hq, (List.nodup_append.1 hnd).2.1, fun b off hm => hrows b off (List.mem_append_right _ hm)⟩

theorem tabs_of_laid {W : World} (h : laidMetH Tryd.prog [("madrigal/tabs.edges", Rows.laid_madrigal_tabs_edges), ("madrigal/tabs.taps", Rows.laid_madrigal_tabs_taps)] W) : EdgesAt W ∧ TapsAt W := by
  rw [MakeChecks.laidMetH_plain _ _ _ (by kernel_rfl)] at h
  exact ⟨edges_of_laid h, taps_of_laid (laid_rest h)⟩

/-- A slice of integers that came in: it is nil; or it leads to a row of 'cap' cells, the first 'len' of which are its elements. -/
def IsRow (k : IntKind) (w : World) (a : Option Addr) (len cap : Nat) (zs : List Int) : Prop :=
  (a = none ∧ len = 0 ∧ cap = 0 ∧ zs = []) ∨
  ∃ x, a = some x ∧ len ≤ cap ∧ cap ≤ maxLen ∧ zs.length = cap ∧ (∀ i, i < zs.length → w.cell? (x.add i) = some (.int k (zs.getD i 0))) ∧ ∀ n ∈ zs, (Lit.int k n).wf = true

end Go.Proofs.YtjcbcmloenhohabDoor
