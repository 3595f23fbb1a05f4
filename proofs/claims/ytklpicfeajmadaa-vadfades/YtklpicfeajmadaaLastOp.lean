/- A statement that draws its order, whose operations only read, but for the last one, which waits for all of them, by itself or by way of others: one walk of the text's order serves. Nothing here is of any program. -/
import Derived.Test.YtklpicfeajmadaaNumA
import Derived.Deep.QuietTactic
import Derived.BigQuiet
namespace Go.Proofs.Ytklpicfeajmadaa

/-- The front's operations wait for earlier ones alone, none is guarded; for each of them a later one waits. -/
def lastB (full : List Oper) : Bool :=
  match full.getLast? with
  | none => false
  | some st => st.guard.isNone && full.dropLast.all (fun o => o.guard.isNone) && ((List.range full.dropLast.length).all fun k => ((full.dropLast[k]?).map fun o => o.after.all fun e => !Region.binds .any e || decide (e.on < k)).getD true)
      && ((List.range full.dropLast.length).all fun k => (st.after.any fun e => Region.binds .any e && decide (e.on = k)) || (List.range full.dropLast.length).any fun j => decide (k < j) && ((full.dropLast[j]?).map fun o => o.after.any fun e => Region.binds .any e && decide (e.on = k)).getD false) && st.after.all (fun e => !Region.binds .any e || decide (e.on < full.dropLast.length))

section
variable {P : Program} {C : World → Prop} {Q : Exit → Act → World → Prop} {l : List Oper} {st : Oper}

structure LastOk (l : List Oper) (st : Oper) : Prop where
  gst : st.guard = none
  gl : ∀ o ∈ l, o.guard = none
  back : ∀ k o, l[k]? = some o → ∀ e ∈ o.after, Region.binds .any e = true → e.on < k
  waits : ∀ k, k < l.length → (∃ e ∈ st.after, Region.binds .any e = true ∧ e.on = k) ∨ ∃ j o, k < j ∧ l[j]? = some o ∧ ∃ e ∈ o.after, Region.binds .any e = true ∧ e.on = k
  stays : ∀ e ∈ st.after, Region.binds .any e = true → e.on < l.length

theorem lastOk_of {full : List Oper} (h : lastB full = true) : ∃ st, full = full.dropLast ++ [st] ∧ LastOk full.dropLast st := by
  unfold lastB at h
  split at h
  · cases h
  · rename_i st hst
    simp only [Bool.and_eq_true, List.all_eq_true, Option.isNone_iff_eq_none, List.mem_range, Array.all_eq_true_iff_forall_mem] at h
    obtain ⟨⟨⟨⟨h1, h2⟩, h3⟩, h4⟩, h5⟩ := h
    refine ⟨st, ?_, h1, h2, fun k o ho e he hb => ?_, fun k hk => ?_, fun e he hb => ?_⟩
    · have hne : full ≠ [] := fun e => by subst e; cases hst
      have := List.dropLast_concat_getLast hne
      rw [List.getLast?_eq_some_getLast hne] at hst
      cases hst
      exact this.symm
    · have hk : k < full.dropLast.length := (List.getElem?_eq_some_iff.1 ho).1
      have := h3 k hk
      rw [ho] at this
      simp only [Option.map_some, Option.getD_some, Array.all_eq_true_iff_forall_mem] at this
      have := this e he
      rw [hb] at this
      simpa using this
    · have h6 := h4 k hk
      simp only [Bool.or_eq_true, Array.any_eq_true', List.any_eq_true, List.mem_range, Bool.and_eq_true, decide_eq_true_eq] at h6
      rcases h6 with ⟨e, he, hh⟩ | ⟨j, hj, hkj, hh⟩
      · exact .inl ⟨e, he, hh.1, hh.2⟩
      · refine .inr ⟨j, full.dropLast[j], hkj, List.getElem?_eq_getElem hj, ?_⟩
        rw [List.getElem?_eq_getElem hj] at hh
        simp only [Option.map_some, Option.getD_some, Array.any_eq_true', Bool.and_eq_true, decide_eq_true_eq] at hh
        obtain ⟨e, he, h7, h8⟩ := hh
        exact ⟨e, he, h7, h8⟩
    · have := h5 e he
      rw [hb] at this
      simpa using this

theorem getD_push {a : Array Bool} {x : Bool} {i : Nat} (d : Bool) (h : i < a.size) : (a.push x).getD i d = a.getD i d := by
  simp [Array.getElem?_push_lt h, h]
theorem set_push {a : Array Bool} {i : Nat} (h : i < a.size) : (a.push false).setIfInBounds i true = (a.setIfInBounds i true).push false := by
  apply Array.ext_getElem?
  intro j
  simp only [Array.getElem?_setIfInBounds, Array.getElem?_push, Array.size_push, Array.size_setIfInBounds]
  by_cases e : i = j
  · subst e
    simp [h, Nat.lt_succ_of_lt h, Nat.ne_of_lt h]
  · simp [e]
theorem wanted_none {ops : Array Oper} {o : Oper} {a : Act} (h : o.guard = none) : Region.wanted o (yielded ops a.tmps) = true := by simp [Region.wanted, h]

theorem front_at (l : List Oper) (st : Oper) {i : Nat} (h : i < l.length) : (l ++ [st]).toArray[i]? = l.toArray[i]? := by
  simp [List.getElem?_append_left h]
theorem last_at (l : List Oper) (st : Oper) : (l ++ [st]).toArray[l.length]? = some st := by simp

/-- An operation of the front may come up in the whole just as in the front. -/
theorem ready_front (ok : LastOk l st) {listed : Array Bool} (hs : listed.size = l.length) {i : Nat} (hi : i < l.length) :
    i ∈ Region.ready .any (l ++ [st]).toArray (listed.push false) ↔ i ∈ Region.ready .any l.toArray listed := by
  rw [mem_ready, mem_ready, front_at l st hi, getD_push true (by omega)]
  refine and_congr_right fun _ => ?_
  constructor
  · rintro ⟨o, ho, hall⟩
    refine ⟨o, ho, fun e he hb => ?_⟩
    have hk : e.on < i := ok.back i o (by simpa using ho) e he hb
    have := hall e he hb
    rwa [getD_push false (by omega)] at this
  · rintro ⟨o, ho, hall⟩
    refine ⟨o, ho, fun e he hb => ?_⟩
    have hk : e.on < i := ok.back i o (by simpa using ho) e he hb
    rw [getD_push false (by omega)]
    exact hall e he hb
/-- What has come up had all come up that it waits for. -/
def Closed (l : List Oper) (listed : Array Bool) : Prop := ∀ (j : Nat) (o : Oper), l[j]? = some o → listed.getD j false = true → ∀ e ∈ o.after, Region.binds .any e = true → listed.getD e.on false = true
theorem Closed.start (l : List Oper) (n : Nat) : Closed l (Array.replicate n false) := fun j o _ h => by
  simp [Array.getD_eq_getD_getElem?, Array.getElem?_replicate] at h
  split at h <;> simp at h
theorem Closed.set {listed : Array Bool} (h : Closed l listed) {i : Nat} (hr : i ∈ Region.ready .any l.toArray listed) : Closed l (listed.setIfInBounds i true) := fun j o ho hj e he hb => by
  by_cases hji : j = i
  · subst hji
    obtain ⟨_, o2, ho2, hall⟩ := mem_ready.1 hr
    have e1 : o2 = o := by
      rw [List.getElem?_toArray] at ho2
      rw [ho] at ho2
      cases ho2
      rfl
    subst e1
    have h1 := hall e he hb
    by_cases hei : j = e.on
    · rw [hei, Array.getD_eq_getD_getElem?, Array.getElem?_setIfInBounds]
      simp only [if_true]
      split
      · rfl
      · rename_i hn
        rw [Array.getD_eq_getD_getElem?, Array.getElem?_eq_none (by omega)] at h1
        exact h1
    · rw [getD_set_ne false hei]
      exact h1
  · rw [getD_set_ne false (Ne.symm hji)] at hj
    have h1 := h j o ho hj e he hb
    by_cases hei : i = e.on
    · rw [hei, Array.getD_eq_getD_getElem?, Array.getElem?_setIfInBounds]
      simp only [if_true]
      split
      · rfl
      · rename_i hn
        rw [Array.getD_eq_getD_getElem?, Array.getElem?_eq_none (by omega)] at h1
        exact h1
    · rw [getD_set_ne false hei]
      exact h1

/-- Where the last may come up all has come up. -/
theorem all_before (ok : LastOk l st) {listed : Array Bool} (hs : listed.size = l.length) (hc : Closed l listed) (hr : l.length ∈ Region.ready .any (l ++ [st]).toArray (listed.push false)) : ∀ d k, k + d = l.length → 0 < d → listed.getD k false = true := by
  obtain ⟨_, o2, ho2, hall⟩ := mem_ready.1 hr
  rw [last_at] at ho2
  cases ho2
  intro d
  induction d using Nat.strongRecOn with
  | ind d ih =>
    intro k hk hd
    rcases ok.waits k (by omega) with ⟨e, he, hb, rfl⟩ | ⟨j, o, hkj, ho, e, he, hb, rfl⟩
    · have := hall e he hb
      rwa [getD_push false (by omega)] at this
    · have hj : j < l.length := (List.getElem?_eq_some_iff.1 ho).1
      exact hc j o ho (ih (l.length - j) (by omega) j (by omega) (by omega)) e he hb

/-- While something of the front may come up, the last may not. -/
theorem last_waits (ok : LastOk l st) {listed : Array Bool} (hs : listed.size = l.length) (hc : Closed l listed) {i : Nat} (hr : i ∈ Region.ready .any l.toArray listed) : ¬ l.length ∈ Region.ready .any (l ++ [st]).toArray (listed.push false) := fun h => by
  obtain ⟨h0, o, ho, _⟩ := mem_ready.1 hr
  have hi : i < l.length := by simpa using (Array.getElem?_eq_some_iff.1 ho).1
  have h2 := all_before ok hs hc h (l.length - i) i (by omega) (by omega)
  have h1 : i < listed.size := by omega
  simp only [Array.getD_eq_getD_getElem?, Array.getElem?_eq_getElem h1, Option.getD_some] at h2 h0
  rw [h2] at h0
  cases h0
/-- Nothing of the front may come up: all has. -/
theorem all_listed (ok : LastOk l st) {listed : Array Bool} (hs : listed.size = l.length) (hr : Region.ready .any l.toArray listed = []) : ∀ i, i < l.length → listed.getD i false = true := by
  intro i
  induction i using Nat.strongRecOn with
  | ind i ih =>
    intro hi
    cases hb : listed.getD i false with
    | true => rfl
    | false =>
      exfalso
      have hlt : i < listed.size := by omega
      have : i ∈ Region.ready .any l.toArray listed := by
        rw [mem_ready]
        refine ⟨?_, l[i], by simp [hi], fun e he hbe => ?_⟩
        · simp only [Array.getD_eq_getD_getElem?, Array.getElem?_eq_getElem hlt, Option.getD_some] at hb ⊢
          exact hb
        · have hk := ok.back i l[i] (List.getElem?_eq_getElem hi) e he hbe
          exact ih e.on hk (by omega)
      rw [hr] at this
      cases this
theorem last_ready (ok : LastOk l st) {listed : Array Bool} (hs : listed.size = l.length) (hr : Region.ready .any l.toArray listed = []) {i : Nat} : i ∈ Region.ready .any (l ++ [st]).toArray (listed.push false) ↔ i = l.length := by
  have hall := all_listed ok hs hr
  constructor
  · intro h
    obtain ⟨h0, o, ho, _⟩ := mem_ready.1 h
    have hi : i < l.length + 1 := by simpa using (Array.getElem?_eq_some_iff.1 ho).1
    rcases Nat.lt_or_ge i l.length with h1 | h1
    · have := hall i h1
      rw [getD_push true (by omega)] at h0
      have h2 : i < listed.size := by omega
      simp only [Array.getD_eq_getD_getElem?, Array.getElem?_eq_getElem h2, Option.getD_some] at this h0
      rw [this] at h0
      cases h0
    · omega
  · rintro rfl
    rw [mem_ready]
    refine ⟨by simp [← hs], st, last_at l st, fun e he hb => ?_⟩
    rw [getD_push false (by have := ok.stays e he hb; omega)]
    exact hall e.on (ok.stays e he hb)
theorem none_ready (ok : LastOk l st) {listed : Array Bool} (hs : listed.size = l.length) (hr : Region.ready .any l.toArray listed = []) : Region.ready .any (l ++ [st]).toArray ((listed.push false).setIfInBounds l.length true) = [] := by
  apply List.eq_nil_iff_forall_not_mem.2
  intro i h
  obtain ⟨h0, o, ho, _⟩ := mem_ready.1 h
  have hi : i < l.length + 1 := by simpa using (Array.getElem?_eq_some_iff.1 ho).1
  rcases Nat.lt_or_ge i l.length with h1 | h1
  · have := all_listed ok hs hr i h1
    rw [getD_set_ne true (by omega), getD_push true (by omega)] at h0
    have h2 : i < listed.size := by omega
    simp only [Array.getD_eq_getD_getElem?, Array.getElem?_eq_getElem h2, Option.getD_some] at this h0
    rw [this] at h0
    cases h0
  · obtain rfl : i = l.length := by omega
    simp [← hs] at h0

/-- The end: the last one comes up, and that is all. -/
theorem wpAny_last (ok : LastOk l st) {listed : Array Bool} (hs : listed.size = l.length) (hr : Region.ready .any l.toArray listed = []) {a : Act} {w : World} (h : st.wp P a w (fun a' w' => Q .normal a' w') Q) (fuel : Nat) :
    wpAny P .any (l ++ [st]).toArray Q (fuel + 1) (listed.push false) a w := by
  refine ⟨fun h0 => ?_, fun i hi => ?_⟩
  · have := (last_ready (st := st) ok hs hr (i := l.length)).2 rfl
    rw [h0] at this
    cases this
  · obtain rfl := (last_ready ok hs hr).1 hi
    unfold wpOp
    rw [last_at]
    simp only [wanted_none ok.gst, if_true]
    refine .inl (Oper.wp_mono (fun a' w' h' => ?_) h)
    have hn := none_ready (st := st) ok hs hr
    cases fuel with
    | zero => exact ⟨hn, h'⟩
    | succ f => exact ⟨fun _ => h', fun j hj => by rw [hn] at hj; cases hj⟩

theorem wpAny_front (ok : LastOk l st) : ∀ (fuel : Nat) (listed : Array Bool) (a : Act) (w : World), listed.size = l.length → Closed l listed → C w →
    wpAnyQ P .any l.toArray C (fun a' => ∀ w', C w' → st.wp P a' w' (fun a'' w'' => Q .normal a'' w'') Q) fuel listed a → wpAny P .any (l ++ [st]).toArray Q (fuel + 1) (listed.push false) a w
  | 0, listed, a, w, hs, _, hw, h => wpAny_last ok hs h.1 (h.2 w hw) 0
  | fuel + 1, listed, a, w, hs, hc, hw, h => by
    by_cases hr : Region.ready .any l.toArray listed = []
    · exact wpAny_last ok hs hr (h.1 hr w hw) (fuel + 1)
    · obtain ⟨i0, hi0⟩ := List.exists_mem_of_ne_nil _ hr
      refine ⟨fun h0 => ?_, fun i hi => ?_⟩
      · have hlt : i0 < l.length := by
          obtain ⟨_, o, ho, _⟩ := mem_ready.1 hi0
          simpa using (Array.getElem?_eq_some_iff.1 ho).1
        have := (ready_front ok hs hlt).2 hi0
        rw [h0] at this
        cases this
      · have hlt : i < l.length := by
          obtain ⟨_, o, ho, _⟩ := mem_ready.1 hi
          have h1 : i < l.length + 1 := by simpa using (Array.getElem?_eq_some_iff.1 ho).1
          rcases Nat.lt_or_ge i l.length with h2 | h2
          · exact h2
          · obtain rfl : i = l.length := by omega
            exact absurd hi (last_waits ok hs hc hi0)
        have hi' := (ready_front ok hs hlt).1 hi
        have hq := h.2 i hi'
        have hop := wpOp_of_qOp (Q' := Q) (K' := wpAny P .any (l ++ [st]).toArray Q (fuel + 1) ((listed.push false).setIfInBounds i true)) hw (fun a' w' hw' h' => by
          have e : (listed.push false).setIfInBounds i true = (listed.setIfInBounds i true).push false := by
            exact set_push (by omega)
          rw [e]
          exact wpAny_front ok fuel _ a' w' (by simpa using hs) (hc.set hi') hw' h') hq
        unfold wpOp at hop ⊢
        rw [front_at l st hlt]
        have ho : l.toArray[i]? = some l[i] := by simp [hlt]
        rw [ho] at hop ⊢
        have hg : (l[i]).guard = none := ok.gl _ (List.getElem_mem _)
        simp only [wanted_none hg, if_true] at hop ⊢
        exact hop

/-- THE LAW. The walk of the front alone, in the text's order, then the last operation. -/
theorem wp_region_last {id : Nat} {a : Act} {w : World} {full : List Oper} {st : Oper} (hm : P.follows .mixedOrders = true) (hL : lastB full = true) (hst : full.getLast? = some st) (hB : Region.lexB .any full.dropLast.toArray = true)
    (h : wpQuiet P full.dropLast.toArray (fun w' => ∃ n, w' = w.drewN n) (fun a' => ∀ w', (∃ n, w' = w.drewN n) → st.wp P a' w' (fun a'' w'' => Q .normal a'' w'') Q) full.dropLast a) : (Code.region id full.toArray true).wp P Q a w := by
  obtain ⟨st', hf, ok⟩ := lastOk_of hL
  have hst' : st' = st := by
    rw [hf] at hst
    simpa using hst
  subst hst'
  refine wp_region_any hm ?_
  simp only [Region.lexB, Bool.and_eq_true] at hB
  have h1 := wpAnyQ_lex (C := fun w' => ∃ n, w' = w.drewN n) (md := .any) hB.1 full.dropLast 0 (Array.replicate full.dropLast.toArray.size false) a (by simp) (by simpa using hB.2) h
  have h2 := wpAny_front (Q := Q) ok full.dropLast.length (Array.replicate full.dropLast.toArray.size false) a { w with drawn := w.drawn + 1 } (by simp) (Closed.start _ _) ⟨1, rfl⟩ h1
  have e1 : full.toArray = (full.dropLast ++ [st']).toArray := by rw [← hf]
  rw [e1]
  have e2 : (full.dropLast ++ [st']).toArray.size = full.dropLast.length + 1 := by simp
  rw [e2]
  have e3 : Array.replicate (full.dropLast.length + 1) false = (Array.replicate full.dropLast.toArray.size false).push false := by
    rw [Array.replicate_succ]
    simp
  rw [e3]
  exact h2

/-- The same for any class of worlds in which the front is quiet. -/
theorem wp_region_last_in {id : Nat} {a : Act} {w : World} {full : List Oper} {st : Oper} (C : World → Prop) (hm : P.follows .mixedOrders = true) (hL : lastB full = true) (hst : full.getLast? = some st) (hB : Region.lexB .any full.dropLast.toArray = true) (hC : C { w with drawn := w.drawn + 1 })
    (h : wpQuiet P full.dropLast.toArray C (fun a' => ∀ w', C w' → st.wp P a' w' (fun a'' w'' => Q .normal a'' w'') Q) full.dropLast a) : (Code.region id full.toArray true).wp P Q a w := by
  obtain ⟨st', hf, ok⟩ := lastOk_of hL
  have hst' : st' = st := by
    rw [hf] at hst
    simpa using hst
  subst hst'
  refine wp_region_any hm ?_
  simp only [Region.lexB, Bool.and_eq_true] at hB
  have h1 := wpAnyQ_lex (C := C) (md := .any) hB.1 full.dropLast 0 (Array.replicate full.dropLast.toArray.size false) a (by simp) (by simpa using hB.2) h
  have h2 := wpAny_front (Q := Q) ok full.dropLast.length (Array.replicate full.dropLast.toArray.size false) a { w with drawn := w.drawn + 1 } (by simp) (Closed.start _ _) hC h1
  have e1 : full.toArray = (full.dropLast ++ [st']).toArray := by rw [← hf]
  rw [e1]
  have e2 : (full.dropLast ++ [st']).toArray.size = full.dropLast.length + 1 := by simp
  rw [e2]
  have e3 : Array.replicate (full.dropLast.length + 1) false = (Array.replicate full.dropLast.toArray.size false).push false := by
    rw [Array.replicate_succ]
    simp
  rw [e3]
  exact h2

/-- What is loaded is the same in every world of the class. -/
theorem wpQuiet_load {ops : Array Oper} {o : Oper} {rest : List Oper} {a : Act} {Z : Act → Prop} (ty : TypeId) (p : Addr) (v : Value) (h : ∀ W, C W → (Instr.loadAt ty (.pointer (some p))).run P W = .ok v W) (hg : o.guard = none) (x : Operand) (ho : o.op = .load ty x) (hx : a.eval x = .pointer (some p))
    (k : wpQuiet P ops C Z rest (a.put o.dst v)) : wpQuiet P ops C Z (o :: rest) a := by
  refine wpQuiet_step fun K hK => ?_
  rw [if_pos (wanted_none hg)]
  refine ⟨v, fun W hW => ?_, hK _ k⟩
  unfold Oper.quietAt execOp
  simp only [ho, hx, Sem.run_bind, h W hW, Result.andThen_ok, Sem.run_pure, Oper.quietUpon]
  exact ⟨trivial, trivial⟩

/-- An operation that only reckons. -/
theorem wpQuiet_pure {ops : Array Oper} {o : Oper} {rest : List Oper} {a : Act} {Z : Act → Prop} (v : Value) (h : ∀ W, (execOp a.eval o).run P W = .ok (.value v) W) (hg : o.guard = none)
    (k : wpQuiet P ops C Z rest (a.put o.dst v)) : wpQuiet P ops C Z (o :: rest) a := by
  refine wpQuiet_step fun K hK => ?_
  rw [if_pos (wanted_none hg)]
  refine ⟨v, fun W hW => ?_, hK _ k⟩
  unfold Oper.quietAt
  rw [h W]
  exact ⟨rfl, rfl⟩

/-- A statement all of whose operations are quiet in a class of worlds: one walk of the text's order serves. -/
theorem wp_region_quiet_in {id : Nat} {Q : Exit → Act → World → Prop} {a : Act} {w : World} {l : List Oper} (C : World → Prop) (hm : P.follows .mixedOrders = true) (hB : Region.lexB .any l.toArray = true) (hC : C { w with drawn := w.drawn + 1 })
    (h : wpQuiet P l.toArray C (fun a' => ∀ w', C w' → Q .normal a' w') l a) : (Code.region id l.toArray true).wp P Q a w :=
  wp_region_quiet (C := C) hm hB hC (by simpa using h)

end

end Go.Proofs.Ytklpicfeajmadaa
