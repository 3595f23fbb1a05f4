/- A filter without its last number: what package lpc's call comes to. -/
import Derived.Test.YtefecpidccpimaaLpcB
import Derived.Deep.RegionHeld3
namespace Go.Proofs.Ytefecpidccpimaa
open Go.RowKit

def AtN (A : Act) (W : World) : Exit → Act → World → Prop
  | .normal, a, w => a = A ∧ w = W
  | _, _, _ => False
theorem AtN.goes {A : Act} {W : World} {Q : Exit → Act → World → Prop} (h : Q .normal A W) : ∀ (e : Exit) (a : Act) (w : World), AtN A W e a w → Q e a w := fun e a w h' => by
  cases e <;> first | (obtain ⟨rfl, rfl⟩ := h'; exact h) | exact (h' : False).elim

theorem arrAt_alloc (w : World) (zs : List Int) (t : TypeId) : ArrAt (w.alloc (.cells (arrV zs) t)) w.heap.size zs := ⟨t, heap_alloc_new w _⟩
theorem ArrAt.alloc {w : World} {g : Nat} {zs : List Int} (h : ArrAt w g zs) (o : Obj) : ArrAt (w.alloc o) g zs := h.keep ((Below.refl _ _).alloc (Nat.le_refl _) o)
theorem zero32_arr : arrV zero32 = #[.int .i64 0, .int .i64 0, .int .i64 0, .int .i64 0, .int .i64 0, .int .i64 0, .int .i64 0, .int .i64 0, .int .i64 0, .int .i64 0, .int .i64 0, .int .i64 0, .int .i64 0, .int .i64 0, .int .i64 0, .int .i64 0, .int .i64 0, .int .i64 0, .int .i64 0, .int .i64 0, .int .i64 0, .int .i64 0, .int .i64 0, .int .i64 0, .int .i64 0, .int .i64 0, .int .i64 0, .int .i64 0, .int .i64 0, .int .i64 0, .int .i64 0, .int .i64 0] := rfl

/-- All of the new filter, then what stays. -/
def lessL (zs : List Int) (m : Nat) : List Int := downL zs m ++ zs.drop m
theorem lessL_len {zs : List Int} {m : Nat} (h : zs.length = 32) (hm : m ≤ 32) : (lessL zs m).length = 32 := by
  unfold lessL
  rw [List.length_append, downL_len, List.length_drop]
  omega
theorem lessL_at {zs : List Int} {m k : Nat} (h : k < m) : (lessL zs m)[k]?.getD 0 = downAt zs m k := by
  unfold lessL
  rw [List.getElem?_append_left (by rw [downL_len]; exact h)]
  exact downL_at h
theorem lessL_mix {zs : List Int} {m : Nat} : mixL (lessL zs m) zs m = lessL zs m := by
  unfold mixL lessL
  rw [List.take_left' (downL_len zs m)]
theorem lessL_down {zs : List Int} {m k : Nat} (h : k < m) : (lessL zs m)[k]?.getD 0 = (downL zs m)[k]?.getD 0 := by
  rw [lessL_at h, downL_at h]

theorem lead_in {r : Int} (h : -16760438 ≤ r ∧ r ≤ 16760438) : 1 ≤ 16777216 - mulI r r 24 ∧ 16777216 - mulI r r 24 ≤ 16777217 := by
  have h2 := prod_le (p := 16760438) (q := 16760438) (x := r) (y := r) ⟨by omega, h.2⟩ ⟨by omega, h.2⟩
  have h3 : 0 ≤ r * r := by
    rcases Int.le_total 0 r with h4 | h4
    · exact Int.mul_nonneg h4 h4
    · have := Int.mul_nonneg (a := -r) (b := -r) (by omega) (by omega)
      rwa [Int.neg_mul_neg] at this
  rw [mul24_is, cf_same (a := r) (by omega) (by omega)]
  omega
theorem mul24_in (a b : Int) : -274877906945 ≤ mulI a b 24 ∧ mulI a b 24 ≤ 274877906945 := by
  have h1 := cf_in a
  have h2 := cf_in b
  have h := prod_le (p := 2147483648) (q := 2147483648) (x := cf a) (y := cf b) ⟨by omega, h1.2⟩ ⟨by omega, h2.2⟩
  rw [mul24_is]
  omega

set_option maxRecDepth 100000 in
set_option maxHeartbeats 4000000 in
theorem less_any (zs : List Int) (m : Nat) (w : World) (hl : zs.length = 32) (hm : m < 32) (hr : -16760438 ≤ zs[m]?.getD 0 ∧ zs[m]?.getD 0 ≤ 16760438) (hz : ∀ k, k < m → -2147483648 ≤ zs[k]?.getD 0 ∧ zs[k]?.getD 0 ≤ 2147483648) :
    Calls Try.prog 27 #[.agg (arrV zs), .int .i64 (m : Int)] w fun e w' => e = .returned (.agg (arrV (lessL zs m))) ∧ Below w.heap.size w w' := by
  have HB : Hid (∀ W, Below (w.heap.size + 2) ((w.alloc (.cells (arrV zs) 39)).alloc (.cells (arrV zero32) 39)) W → Below w.heap.size w W) := fun W hb =>
    (((Below.refl _ _).alloc (Nat.le_refl _) _).alloc (by simp) _).trans (hb.mono (by omega))
  have hg0 : ArrAt ((w.alloc (.cells (arrV zs) 39)).alloc (.cells (arrV zero32) 39)) w.heap.size zs := (arrAt_alloc w zs _).alloc _
  have hg1 : ArrAt ((w.alloc (.cells (arrV zs) 39)).alloc (.cells (arrV zero32) 39)) (w.heap.size + 1) zero32 := by
    have := arrAt_alloc (w.alloc (.cells (arrV zs) 39)) zero32 39
    rwa [World.size_alloc] at this
  have hsz : ((w.alloc (.cells (arrV zs) 39)).alloc (.cells (arrV zero32) 39)).heap.size = w.heap.size + 2 := by simp
  go_enter Try.func27, Try.ntmps27
  go_wp2
  rw [← zero32_arr]
  generalize hW : ((w.alloc (.cells (arrV zs) 39)).alloc (.cells (arrV zero32) 39)) = W at *
  clear hW
  generalize hgg : w.heap.size = g at *
  have HGG : Hid (w.heap.size = g) := hgg
  clear hgg
  have hcs : (zs.map (Value.int .i64)).length = 32 := by rw [List.length_map, hl]
  have hone : ∀ v ∈ zs.map (Value.int .i64), v.oneCell' = true := fun v hv => by
    obtain ⟨x, _, rfl⟩ := List.mem_map.1 hv
    rfl
  have hinfo : (Try.prog.info? 39).map (·.size) = some (zs.map (Value.int .i64)).length := by rw [hcs]; exact info_arr
  have hund := Try.underlying39
  have hm1 : (0 : Int) ≤ (m : Int) := by omega
  have hm2 : (m : Int) < 32 := by omega
  have HR : Hid (∀ V, ArrAt V g zs → V.rangeAt g 0 (zs.map (Value.int .i64)) ∧ V.cell? ⟨g, m, none⟩ = some (.int .i64 (zs[m]?.getD 0))) := fun V h => ⟨h.range, h.cell (by omega)⟩
  have HE := HR.out W hg0
  have H0 := HR.out W.drew hg0.drew
  have hg3 : ArrAt (W.alloc (.cells (arrV zero32) 39)).drew (g + 2) zero32 := by
    have := (arrAt_alloc W zero32 39).drew
    rwa [hsz] at this
  have H1 := HR.out (W.alloc (.cells (arrV zero32) 39)).drew (hg0.alloc _).drew
  have T : (W.alloc (.cells (arrV zero32) 39)).drew.there (g + 2) 0 32 := hg3.isThere (Nat.le_refl _)
  have HF : Hid (ArrAt ((W.alloc (.cells (arrV zero32) 39)).drew.setCells (g + 2) 0 (zs.map (Value.int .i64))) (g + 2) zs ∧ ArrAt ((W.alloc (.cells (arrV zero32) 39)).drew.setCells (g + 2) 0 (zs.map (Value.int .i64))) g zs ∧ ArrAt ((W.alloc (.cells (arrV zero32) 39)).drew.setCells (g + 2) 0 (zs.map (Value.int .i64))) (g + 1) zero32
      ∧ Below (g + 2) W ((W.alloc (.cells (arrV zero32) 39)).drew.setCells (g + 2) 0 (zs.map (Value.int .i64)))) :=
    ⟨hg3.cells zs rfl hl, (hg0.alloc _).drew.cellsOther (by omega) _ _, (hg1.alloc _).drew.cellsOther (by omega) _ _, by
      rw [setCells_row hg3 zs rfl hl]
      exact below_setRow ((Below.refl _ _).alloc (by omega) _).drew (Nat.le_refl _) _⟩
  have H2 := HR.out _ HF.out.2.1
  rw [zero32_arr] at HF T H1 H2
  clear hg3 hg0 hg1
  generalize hrz : zs[m]?.getD 0 = r at *
  have HRR : Hid (r = zs[m]?.getD 0) := hrz.symm
  clear hrz
  unfold arrV at *
  generalize hv : zs.map (Value.int .i64) = cs at *
  go_region_held3 (fun V => V.rangeAt g 0 cs ∧ V.cell? ⟨g, m, none⟩ = some (.int .i64 r)) (assumption) (fail)
  generalize hV : (W.alloc _).drew.setCells (g + 2) 0 cs = V at *
  clear hV
  have HS : Hid (ArrAt V g (mixL (lessL zs m) zs 0) ∧ ArrAt V (g + 2) zs ∧ ArrAt V (g + 1) zero32 ∧ Below g w V) := ⟨HF.out.2.1, HF.out.1, HF.out.2.2.1, HB.out _ HF.out.2.2.2⟩
  clear HF H0 H1 H2 HE T HR HB hinfo hund hone hsz
  have HC : Hid (∀ j, j < m → clampI (divI (zs[j]?.getD 0 + mulI r (zs[m - 1 - j]?.getD 0) 24) (16777216 - mulI r r 24) 24) (-2147483648) 2147483648 = (lessL zs m)[j]?.getD 0) := fun j hj => by
    rw [lessL_at hj, HRR.out]; rfl
  obtain ⟨hd1, hd2⟩ := lead_in hr
  have hll := lessL_len hl (Nat.le_of_lt hm)
  generalize hrr : mulI r r 24 = rr at *
  have HZ : Hid (∀ k, k < m → -2147483648 ≤ zs[k]?.getD 0 ∧ zs[k]?.getD 0 ≤ 2147483648) := hz
  clear hz hr
  go_wp2_with (go_at_call 25; refine (mul_any _ _ _ _).mono ?_; rintro e w' ⟨rfl, rfl⟩; rw [hrr])
  clear hrr
  go_loopw [8, 9, 19] (fun _ _ k W => ∃ j : Nat, j ≤ m ∧ k = .int .i64 j ∧ Hid (ArrAt W g (mixL (lessL zs m) zs j) ∧ ArrAt W (g + 2) zs ∧ ArrAt W (g + 1) zero32 ∧ Below g w W)) (fun _ _ k _ => m - (intOf k).toNat)
  case atStart => exact ⟨0, Nat.zero_le _, rfl, HS⟩
  case round =>
    clear HS
    obtain ⟨j, hj, rfl, HW⟩ := hrel
    by_cases hlt : j < m
    · obtain ⟨i, hi⟩ : ∃ i : Nat, m - 1 - j = i := ⟨_, rfl⟩
      have hmj : (m : Int) = (j : Int) + (i : Int) + 1 := by omega
      have hlen := mixL_len hll hl (show j ≤ 32 by omega)
      have hA := HW.out.1.cell (i := j) (by omega)
      rw [mixL_at hll hl (by omega)] at hA
      have hF := HW.out.1.frozen j
      have hB := HW.out.2.1.cell (i := j) (by omega)
      have hC := HW.out.2.1.cell (i := i) (by omega)
      have h1 := HZ.out j hlt
      have h2 := HZ.out i (by omega)
      have h3 := HC.out j hlt
      rw [hi] at h3
      have h4 := mul24_in r (zs[i]?.getD 0)
      have hst := mixL_step hll hl (show j < 32 by omega)
      generalize zs[j]?.getD 0 = x at *
      generalize zs[i]?.getD 0 = z at *
      generalize (lessL zs m)[j]?.getD 0 = v at *
      generalize hy : mulI r z 24 = y at *
      have HV : Hid (clampI (divI (x + y) (16777216 - rr) 24) (-2147483648) 2147483648 = v) := h3
      have HN : Hid (∀ n, ArrAt ((wr.drewN n).setCell ⟨g, j, none⟩ (.int .i64 v)) g (mixL (lessL zs m) zs (j + 1)) ∧ ArrAt ((wr.drewN n).setCell ⟨g, j, none⟩ (.int .i64 v)) (g + 2) zs ∧ ArrAt ((wr.drewN n).setCell ⟨g, j, none⟩ (.int .i64 v)) (g + 1) zero32 ∧ Below g w ((wr.drewN n).setCell ⟨g, j, none⟩ (.int .i64 v))) := fun n =>
        ⟨by rw [hst]; exact (HW.out.1.drewN n).set j v, (HW.out.2.1.drewN n).other (p := ⟨g, j, none⟩) (by simp) _, (HW.out.2.2.1.drewN n).other (p := ⟨g, j, none⟩) (by simp) _, (below_drewN HW.out.2.2.2 n).setCell (p := ⟨g, j, none⟩) (Nat.le_refl _) _⟩
      have HWS : Hid (IntKind.i64.wrap (x + y) = x + y) := by show _ = _; rw [IntKind.wrap_i64]; omega
      have hw1 : IntKind.i64.wrap ((m : Int) - 1) = (m : Int) - 1 := by rw [IntKind.wrap_i64]; omega
      have hw2 : IntKind.i64.wrap ((m : Int) - 1 - (j : Int)) = (i : Int) := by rw [IntKind.wrap_i64]; omega
      have HM : Hid (∀ W, Calls Try.prog 25 #[.int .i64 r, .int .i64 z, .int .i64 24] W fun e w' => e = .returned (.int .i64 y) ∧ w' = W) := fun W => by rw [← hy]; exact mul_any _ _ _ _
      clear hy
      have hj1 : (0 : Int) ≤ (j : Int) := by omega
      have hj2 : (j : Int) < 32 := by omega
      have hi1 : (0 : Int) ≤ (i : Int) := by omega
      have hi2 : (i : Int) < 32 := by omega
      clear h3 hst hlen HW HC HZ HRR hmj
      go_wp2
      go_quiet (first | (go_at_call 25; exact Calls.quiet_of_same (HM.out _)))
      go_wp2_with (first
        | (go_at_call 39; refine (div_any _ _ _ _).mono ?_; rintro e w2 ⟨rfl, n2, rfl⟩; rw [World.drewN_drewN])
        | (go_at_call 29; refine (clamp_any _ _ _ _).mono ?_; rw [HV.out]; rintro e w3 ⟨rfl, rfl⟩))
      go_roundw
      case rel => exact ⟨j + 1, by omega, by go_num, HN.out _⟩
      case measure => simp [intOf]; omega
    · have hm' : j = m := by omega
      subst hm'
      rw [lessL_mix] at HW
      have hE : Hid (Below g w (wr.setRow (g + 1) (arrV (lessL zs j)))) := below_setRow HW.out.2.2.2 (by omega) _
      have hK : Hid (ArrAt (wr.setRow (g + 1) (arrV (lessL zs j))) (g + 1) (lessL zs j)) := HW.out.2.2.1.row _
      obtain ⟨t1, h1⟩ := HW.out.1
      obtain ⟨t2, h2⟩ := HW.out.2.2.1
      obtain ⟨t3, h3⟩ := hK.out
      clear HW HC HZ
      go_wp2_with (first
        | (refine wpList_load_row rfl 39 _ rfl g rfl t1 (arrV (lessL zs j)) (0, 0) _ h1 Try.underlying39 rfl (by rw [arrV_size, hll]; exact info_arr) ?_)
        | (refine wpList_store_row rfl 39 _ _ rfl (g + 1) (arrV (lessL zs j)) rfl rfl t2 _ h2 (by rw [arrV_size, hll]; exact info_arr) (by rw [arrV_size, arrV_size, hll]; rfl) (arrV_one _) ?_))
      exact bodyPost_ret (results_cell_row rfl _ _ (g + 1) t3 (arrV (lessL zs j)) (0, 0) _ rfl h3 Try.underlying39 rfl (by rw [arrV_size, hll]; exact info_arr)) rfl ⟨rfl, by rw [HGG.out]; exact hE.out⟩

end Go.Proofs.Ytefecpidccpimaa
