/- A voice in memory: 320 samples of what drove, 32 of what came out, each the oldest first; New, Reset, Copy. -/
import Derived.Test.YtbnkapeahbegaaaSynA
import Derived.Deep.WholeRow
import Derived.Laws.StructEq
namespace Go.Proofs.Ytbnkapeahbegaaa
open Go.RowKit

structure Vo (p : Nat) (D E : List Int) (w : World) : Prop where
  dl : D.length = 320
  el : E.length = 32
  dt : Tame D.reverse
  et : Tame E.reverse
  arr : ArrAt w p (D ++ E)

section
variable {p : Nat} {D E : List Int} {w w' : World}
theorem Vo.len (h : Vo p D E w) : (D ++ E).length = 352 := by rw [List.length_append, h.dl, h.el]
theorem Vo.lt (h : Vo p D E w) : p < w.heap.size := h.arr.lt
theorem Vo.of_block (h : Vo p D E w) (hb : w'.heap[p]? = w.heap[p]?) : Vo p D E w' := ⟨h.dl, h.el, h.dt, h.et, h.arr.of_block hb⟩
theorem Vo.keep (h : Vo p D E w) (hb : Below w.heap.size w w') : Vo p D E w' := h.of_block (hb.block p h.lt)
theorem Vo.turn {q : Nat} (h : Vo p D E w) (ht : Turn q w w') (hq : p ≠ q) : Vo p D E w' := h.of_block (ht.block p h.lt hq)
theorem Vo.drewN (h : Vo p D E w) (k : Nat) : Vo p D E (w.drewN k) := h.keep (below_drewN (Below.refl _ _) k)
theorem Vo.alloc (h : Vo p D E w) (o : Obj) : Vo p D E (w.alloc o) := h.keep ((Below.refl _ _).alloc (Nat.le_refl _) o)
end

def zeros (n : Nat) : List Int := List.replicate n 0
theorem zeros_at (n i : Nat) : (zeros n)[i]?.getD 0 = 0 := by
  unfold zeros
  rw [List.getElem?_replicate]
  split <;> rfl
theorem zeros_len (n : Nat) : (zeros n).length = n := by unfold zeros; simp
theorem zeros_reverse (n : Nat) : (zeros n).reverse = zeros n := by unfold zeros; simp
theorem zeros_nought (n : Nat) : Nought (zeros n) := fun i => zeros_at n i
theorem zeros_tame (n : Nat) : Tame (zeros n) := (zeros_nought n).tame
theorem zeros_split : zeros 320 ++ zeros 32 = zeros 352 := by
  unfold zeros
  rw [List.replicate_append_replicate]

theorem vo_new (w : World) (t : TypeId) : Vo w.heap.size (zeros 320) (zeros 32) (w.alloc (.cells (arrV (zeros 352)) t)) :=
  ⟨zeros_len _, zeros_len _, by rw [zeros_reverse]; exact zeros_tame _, by rw [zeros_reverse]; exact zeros_tame _, by rw [zeros_split]; exact arrAt_alloc _ _ _⟩

theorem info_voice : (Try.prog.info? 46).map (fun i => (i.zero, i.size)) = some (some (.agg (arrV (zeros 352))), 352) := by kernel_rfl
theorem size_voice : (Try.prog.info? 46).map (·.size) = some 352 := by kernel_rfl
theorem built_voice : Try.prog.built 46 [] = some (arrV (zeros 352)) := by kernel_rfl

theorem zero_voice {c : Array Value} (hc : arrV (zeros 352) = c) (W : World) : (zeroValue 46).run Try.prog W = .ok (.agg c) W := (zero_of_info (by rw [← hc]; exact info_voice)).1 W

set_option maxRecDepth 100000 in
theorem new_any (w : World) : Calls Try.prog 10 #[] w fun e w' => e = .returned (.pointer (some ⟨w.heap.size, 0, none⟩)) ∧ w' = w.alloc (.cells (arrV (zeros 352)) 46) := by
  obtain ⟨c, hc⟩ : ∃ c, arrV (zeros 352) = c := ⟨_, rfl⟩
  have hz := zero_voice hc
  rw [hc]
  clear hc
  go_enter Try.func10, Try.ntmps10
  go_wp2
  go_ret
  exact ⟨rfl, rfl⟩

/-- Reset. -/
theorem reset_any (p : Nat) (D E : List Int) (w : World) (hv : Vo p D E w) : Calls Try.prog 20 #[.pointer (some ⟨p, 0, none⟩)] w fun e w' => (∃ v, e = .returned v) ∧ Vo p (zeros 320) (zeros 32) w' ∧ Turn p w w' := by
  obtain ⟨c, hc⟩ : ∃ c, arrV (zeros 352) = c := ⟨_, rfl⟩
  have hz := zero_voice hc
  obtain ⟨t, ht⟩ := hv.arr
  obtain ⟨old, ho⟩ : ∃ old, arrV (D ++ E) = old := ⟨_, rfl⟩
  have hos : old.size = 352 := by rw [← ho, arrV_size, hv.len]
  have hcs : c.size = 352 := by rw [← hc, arrV_size, zeros_len]
  have hc1 : c.all (·.oneCell') = true := by rw [← hc]; exact arrV_one _
  rw [ho] at ht
  have HE : Hid (Vo p (zeros 320) (zeros 32) (w.setRow p c) ∧ Turn p w (w.setRow p c)) :=
    ⟨⟨zeros_len _, zeros_len _, by rw [zeros_reverse]; exact zeros_tame _, by rw [zeros_reverse]; exact zeros_tame _, by rw [zeros_split, ← hc]; exact hv.arr.row _⟩, (Turn.refl _ _).row _⟩
  have HI : Hid ((Try.prog.info? 46).map (·.size) = some c.size) := by show _ = _; rw [hcs]; exact size_voice
  have HA : Hid (old.size = c.size) := by show _ = _; rw [hos, hcs]
  have HO : Hid (c.all (·.oneCell') = true) := hc1
  clear hc hv ho hos hcs hc1
  go_enter Try.func20, Try.ntmps20
  go_wp2_with (refine wpList_store_row rfl 46 _ _ rfl p c rfl rfl t old ht HI.out HA.out HO.out ?_)
  go_end0
  exact ⟨⟨_, rfl⟩, HE.out⟩

/-- Copy. -/
theorem copy_any (p : Nat) (D E : List Int) (w : World) (hv : Vo p D E w) : Calls Try.prog 19 #[.pointer (some ⟨p, 0, none⟩)] w fun e w' => e = .returned (.pointer (some ⟨w.heap.size, 0, none⟩)) ∧ Vo w.heap.size D E w' ∧ w.heap.size < w'.heap.size ∧ Below w.heap.size w w' := by
  obtain ⟨c, hc⟩ : ∃ c, arrV (zeros 352) = c := ⟨_, rfl⟩
  have hz := zero_voice hc
  obtain ⟨t, ht⟩ := hv.arr
  obtain ⟨old, ho⟩ : ∃ old, arrV (D ++ E) = old := ⟨_, rfl⟩
  have hos : old.size = 352 := by rw [← ho, arrV_size, hv.len]
  have hcs : c.size = 352 := by rw [← hc, arrV_size, zeros_len]
  have ho1 : old.all (·.oneCell') = true := by rw [← ho]; exact arrV_one _
  rw [ho] at ht
  have HI : Hid ((Try.prog.info? 46).map (·.size) = some old.size) := by show _ = _; rw [hos]; exact size_voice
  have HA : Hid (c.size = old.size) := by show _ = _; rw [hos, hcs]
  have HO : Hid (old.all (·.oneCell') = true) := ho1
  have HN : Hid ((w.alloc (.cells c 46)).heap[w.heap.size]? = some (.cells c 46 (0, 0))) := heap_alloc_new w _
  have HL : Hid ((w.alloc (.cells c 46)).heap[p]? = some (.cells old t (0, 0))) := by show _ = _; rw [Below.heap_alloc w _ p hv.lt]; exact ht
  have HE : Hid (Vo w.heap.size D E ((w.alloc (.cells c 46)).setRow w.heap.size old) ∧ w.heap.size < ((w.alloc (.cells c 46)).setRow w.heap.size old).heap.size ∧ Below w.heap.size w ((w.alloc (.cells c 46)).setRow w.heap.size old)) := by
    rw [World.setRow_alloc_new]
    refine ⟨⟨hv.dl, hv.el, hv.dt, hv.et, ?_⟩, by simp, (Below.refl _ _).alloc (Nat.le_refl _) _⟩
    rw [← ho]
    exact arrAt_alloc _ _ _
  clear hc hv ho hos hcs ho1
  go_enter Try.func19, Try.ntmps19
  go_wp2_with (first
    | (refine wpList_load_row rfl 46 _ rfl p rfl t old (0, 0) _ ht Try.underlying46 rfl HI.out ?_)
    | (refine wpList_store_row rfl 46 _ _ rfl w.heap.size old rfl rfl 46 c HN.out HI.out HA.out HO.out ?_))
  go_ret
  exact ⟨rfl, HE.out⟩

end Go.Proofs.Ytbnkapeahbegaaa
