/- Arguments read off a row's own condition, and how great the slices within them may be: what the row says of all that was handed in holds of a slice within a struct within a slice. -/
import Derived.Test.YtdbgcbbfnjoebaaActs
import Derived.SizedLaws
namespace Go.Proofs.Ytdbgcbbfnjoebaa
open Go.RowKit Go.ChangeShapes Go.WideShapes

section
variable {H : Type} {enc : TypeId × Value → H} {P : Program} {w : World} {base : Nat} {held : Bool}

/-- How many cells a slice's datum tells of. -/
def tells (d : DataW H) (n : Nat) : Prop := (d = .nil ∧ n = 0) ∨ ∃ a b, d = .slice a b ∧ a.length + b.length = n

theorem rowd_of {t e : TypeId} {k : IntKind} {fuel : Nat} {v : Value} {x : DataW H × List MemPlace} (ht : P.underlying t = some (.slice e)) (he : P.underlying e = some (.int k)) (hc : P.cellsOf e = 1)
    (h : DataW.trod enc P w base (fun _ => true) held fuel t [v] = some x) : ∃ a len cap zs, v = .slice a len cap ∧ IsRow k w a len cap zs ∧ tells x.1 cap := by
  rcases open_ints ht he hc h with ⟨hcs, hx⟩ | ⟨x', l, c, zs, hcs, _, hl, hm, hz, hx, hcell, hwz⟩
  · cases hcs
    exact ⟨_, _, _, [], rfl, .inl ⟨rfl, rfl, rfl, rfl⟩, .inl ⟨by rw [hx], rfl⟩⟩
  · cases hcs
    have hz' : zs.length = c := by simpa using hz
    refine ⟨_, _, _, zs, rfl, .inr ⟨_, rfl, hl, hm, hz', hcell, hwz⟩, .inr ⟨_, _, by rw [hx], ?_⟩⟩
    simp only [lits, List.length_map, List.length_take, List.length_drop]
    omega

theorem actd_of {e z : TypeId} {fs : Array Field} {nf fuel : Nat} {x : Addr} {y : DataW H × List MemPlace} {cs : List Value} (he : P.underlying e = some (.struct fs)) (hok : actsB P fs nf z = true) (hz : P.underlying z = some (.int .i64)) (hcz : P.cellsOf z = 1)
    (hcs : w.cells? base x (nf + 1) = some cs) (h : DataW.trod enc P w base (fun _ => true) held fuel e cs = some y) : ∃ v, ActAt nf w x v ∧ (∀ n, v.cap * P.bytesOf z ≤ n ∨ v.cap * P.bytesOf z ∈ y.1.weights P e) := by
  obtain ⟨_, hlen, hcell⟩ := World.cells?_some hcs
  obtain ⟨xs, n, _, hy, _, hxl, hall⟩ := DataW.trod_struct he h
  unfold actsB at hok
  rw [Bool.and_eq_true, List.all_eq_true] at hok
  obtain ⟨h1, h2⟩ := hok
  have hints : ∀ j, j < nf → ∃ u : Int, w.cell? (x.add j) = some (.int .i64 u) ∧ (Lit.int .i64 u).wf = true := fun j hj => by
    · have h3 := h1 j (by simpa using hj)
      split at h3
      · rename_i f hf
        simp only [Bool.and_eq_true, beq_iff_eq] at h3
        obtain ⟨⟨ho, hc⟩, hi⟩ := h3
        have h4 := hall j f hf
        have hlt : j < xs.length := by rw [hxl]; exact (Array.getElem?_eq_some_iff.1 hf).1
        rw [List.getElem?_eq_getElem hlt, ho, hc] at h4
        obtain ⟨u, hu, _, hw⟩ := DataW.trod_int (isI64_of hi) h4
        refine ⟨u, ?_, hw⟩
        rw [hcell j (by omega)]
        have h5 := congrArg (·[0]?) hu
        simpa [List.getElem?_take, List.getElem?_drop] using h5
      · cases h3
  have hrow : ∃ a len cap q, w.cell? (x.add nf) = some (.slice a len cap) ∧ IsRow .i64 w a len cap q ∧ (∀ n, cap * P.bytesOf z ≤ n ∨ cap * P.bytesOf z ∈ y.1.weights P e) := by
    split at h2
    · rename_i f hf
      simp only [Bool.and_eq_true, beq_iff_eq] at h2
      obtain ⟨⟨ho, hc⟩, hi⟩ := h2
      have h4 := hall nf f hf
      have hlt : nf < xs.length := by rw [hxl]; exact (Array.getElem?_eq_some_iff.1 hf).1
      rw [List.getElem?_eq_getElem hlt, ho, hc] at h4
      have hd : (cs.drop nf).take 1 = [cs[nf]'(by omega)] := by
        rw [List.drop_eq_getElem_cons (by omega)]; rfl
      rw [hd] at h4
      obtain ⟨a, len, cap, q, hv, hr, ht⟩ := rowd_of (isSliceOf_of hi) hz hcz h4
      refine ⟨a, len, cap, q, ?_, hr, fun n => ?_⟩
      · rw [hcell nf (by omega), List.getElem?_eq_getElem (by omega), hv]
      · rcases ht with ⟨_, rfl⟩ | ⟨d1, d2, hd, hn⟩
        · left; simp
        · right
          rw [hy]
          simp only [DataW.weights, he]
          refine DataW.weights_mem_each (j := nf) (t := f.type) (d := (xs[nf]'hlt).1) ?_ ?_ _ ?_
          · rw [List.getElem?_map, Array.getElem?_toList, hf]; rfl
          · rw [List.getElem?_map, List.getElem?_eq_getElem hlt]; rfl
          · rw [hd, ← hn]
            simp [DataW.weights, isSliceOf_of hi]
    · cases h2
  obtain ⟨a, len, cap, q, ha, hr, hq⟩ := hrow
  obtain ⟨zz, hzz⟩ := pick_lt (0 : Int) nf hints
  exact ⟨⟨zz, a, len, cap, q⟩, ⟨hzz, ha, hr⟩, hq⟩

theorem weightsAll_mem {e : TypeId} : ∀ {l : List (DataW H)} {d : DataW H}, d ∈ l → ∀ n ∈ d.weights P e, n ∈ DataW.weightsAll P e l
  | d' :: r, d, hd, n, hn => by
    simp only [DataW.weightsAll, List.mem_append]
    rcases List.mem_cons.1 hd with rfl | h
    · exact Or.inl hn
    · exact Or.inr (weightsAll_mem h n hn)

theorem acts_sized {t e z : TypeId} {fs : Array Field} {nf fuel : Nat} {a : Option Addr} {len cap : Nat} {y : DataW H × List MemPlace} {ts : List TypeId} {ds : List (DataW H)} (hsz : (DataW.weightsEach P ts ds).all (· ≤ reachBytes) = true)
    {j : Nat} (hts : ts[j]? = some t) (hds : ds[j]? = some y.1) (ht : P.underlying t = some (.slice e)) (he : P.underlying e = some (.struct fs)) (hok : actsB P fs nf z = true)
    (hz : P.underlying z = some (.int .i64)) (hcz : P.cellsOf z = 1) (hce : P.cellsOf e = nf + 1) (h : DataW.trod enc P w base (fun _ => true) held fuel t [.slice a len cap] = some y) :
    ∃ vs, ActsAt nf w a len cap vs ∧ ∀ i, i < len → (vs i).cap * P.bytesOf z ≤ reachBytes := by
  rcases Deep.open_slice ht h with ⟨hcs, _⟩ | ⟨x, l, c, m, n, D, Pl, hcs, _, hl, hm, hmm, hy, hx⟩
  · cases hcs
    exact ⟨fun _ => ⟨fun _ => 0, none, 0, 0, []⟩, .inl ⟨rfl, rfl, rfl⟩, fun i hi => absurd hi (Nat.not_lt_zero i)⟩
  · cases hcs
    simp only [if_true] at hmm
    subst hmm
    have hall : ∀ i, i < m → ∃ v, ActAt nf w (x.add (i * (nf + 1))) v ∧ (i < len → v.cap * P.bytesOf z ≤ reachBytes) := fun i hi => by
      obtain ⟨cs', h1, h2⟩ := hx i hi
      rw [hce] at h1
      obtain ⟨v, hv, hw⟩ := actd_of he hok hz hcz h1 h2
      refine ⟨v, hv, fun hil => ?_⟩
      rcases hw reachBytes with h3 | h3
      · exact h3
      · refine of_decide_eq_true (List.all_eq_true.1 hsz _ (DataW.weights_mem_each hts hds _ ?_))
        rw [hy]
        simp only [DataW.weights, ht, List.mem_cons, List.mem_append]
        exact Or.inr (Or.inl (weightsAll_mem (List.mem_map.2 ⟨i, List.mem_range.2 hil, rfl⟩) _ h3))
    obtain ⟨vs, hvs⟩ := pick_lt (⟨fun _ => 0, .none, 0, 0, []⟩ : ActV) m hall
    exact ⟨vs, .inr ⟨x, rfl, hl, hm, fun i hi => (hvs i hi).1⟩, fun i hi => (hvs i (by omega)).2 hi⟩
end

end Go.Proofs.Ytdbgcbbfnjoebaa
