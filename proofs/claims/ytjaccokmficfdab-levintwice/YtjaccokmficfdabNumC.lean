/- The document's own clamped, for any bounds. -/
import Derived.Test.YtjaccokmficfdabLsfC
namespace Go.Proofs.Ytjaccokmficfdab
open Go.RowKit

def clB (lo hi : Int) (zs : List Int) : List Int := zs.map (fun z => clampI z lo hi)
theorem clB_len (lo hi : Int) (zs : List Int) : (clB lo hi zs).length = zs.length := by unfold clB; rw [List.length_map]
theorem clB_at {lo hi : Int} {zs : List Int} {j : Nat} (h : j < zs.length) : (clB lo hi zs)[j]?.getD 0 = clampI (zs[j]?.getD 0) lo hi := by
  unfold clB
  rw [List.getElem?_map, List.getElem?_eq_getElem h]
  rfl
theorem clB_in {lo hi : Int} {zs : List Int} (h : lo ≤ hi) : ∀ x ∈ clB lo hi zs, lo ≤ x ∧ x ≤ hi := fun x hx => by
  obtain ⟨y, _, rfl⟩ := List.mem_map.1 hx
  exact clampI_in y lo hi h
theorem clB_same {lo hi : Int} {zs : List Int} (h : ∀ x ∈ zs, lo ≤ x ∧ x ≤ hi) : clB lo hi zs = zs := by
  unfold clB
  refine (List.map_congr_left fun x hx => ?_).trans (List.map_id zs)
  have := h x hx
  unfold clampI
  split <;> (try split) <;> (try split) <;> (first | rfl | (exfalso; omega) | (show _ = x; omega))

end Go.Proofs.Ytjaccokmficfdab
