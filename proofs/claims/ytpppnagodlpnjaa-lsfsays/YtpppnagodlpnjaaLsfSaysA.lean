/- The law that all is as the document says: what its parts share. -/
import Derived.Test.YtpppnagodlpnjaaLsfU
import Derived.Deep.RegionHeld3
namespace Go.Proofs.Ytpppnagodlpnjaa
open Go.RowKit

/-- 'append([]int{}, l...)', a copy, as one step of a region that draws. -/
theorem step_copy_zs {ops : Array Oper} {o : Oper} {a : Act} {w : World} {K : Act → World → Prop} {Q : Exit → Act → World → Prop} {E : Prop}
    (hg : o.guard = none) (s x : Operand) (hop : o.op = Op.call { callee := Callee.builtin Builtin.append, args := #[s, x], argTypes := #[27, 27] })
    (xo : Option Addr) (n cap : Nat) (zs : List Int) (hr : Zs w xo n zs) (hn : n * 8 ≤ 140737488355328)
    (hs : a.eval s = .slice (some ⟨w.heap.size, 0, none⟩) 0 0) (hx : a.eval x = .slice xo n cap)
    (hK : ∀ r c w', Zs w' r n zs → Below w.heap.size w w' → K (a.put o.dst (.slice r n c)) w') :
    if Region.wanted o (yielded ops a.tmps) = true then Oper.wp Try.prog o a (w.alloc (.cells #[] 3)) K Q else E := by
  have hw : Region.wanted o (yielded ops a.tmps) = true := by simp [Region.wanted, hg]
  rw [if_pos hw]
  have hall : ∃ r c w', (Builtin.append_ #[27, 27] o.type #[.slice (some ⟨w.heap.size, 0, none⟩) 0 0, .slice xo n cap]).run Try.prog (w.alloc (.cells #[] 3)) = .ok (.slice r n c) w' ∧
      NewRow 3 w.heap.size w' r zs ∧ Below w.heap.size w w' := by
    cases xo with
    | none =>
      have h0 : n = 0 := by
        rcases Nat.eq_zero_or_pos n with h0 | h0
        · exact h0
        · obtain ⟨_, _, hx', _⟩ := hr.at_ h0; cases hx'
      subst h0
      exact ⟨_, _, _, append_copy_nil Try.underlying27 info_int o.type w cap, .inl (List.eq_nil_of_length_eq_zero hr.len), (Below.refl _ _).alloc (Nat.le_refl _) _⟩
    | some y =>
      refine append_copy Try.underlying27 info_int o.type w y n cap zs hr.len hn (fun i hi => ?_)
      obtain ⟨b, off, hy, _, hc⟩ := hr.at_ (by omega)
      cases hy
      rw [Addr.add_lit]
      exact hc i hi
  obtain ⟨r, c, w', hrun, hnew, hb⟩ := hall
  unfold Oper.wp
  simp [execOp, hop, resolve, invoke, builtin, hs, hx, hrun, Result.andThen]
  exact hK r c w' (Zs.of_new hnew hr.len) hb

theorem zs_adds {w : World} {a : Option Addr} {n : Nat} {zs : List Int} (h : Zs w a n zs) (h0 : 0 < n) : ∃ x, a = some x ∧ ∀ i, i < n → w.cell? (x.add i) = some (.int .i64 (zs[i]?.getD 0)) := by
  obtain ⟨b, off, e, _, hc⟩ := h.at_ h0
  exact ⟨_, e, fun i hi => by rw [Addr.add_lit]; exact hc i hi⟩

set_option maxRecDepth 100000 in
set_option maxHeartbeats 2000000 in
theorem says_far (order one : Int) (a0 : Option Addr) (n0 c0 : Nat) (a1 : Option Addr) (n1 c1 : Nat) (a2 : Option Addr) (n2 c2 : Nat) (v : Int) (w : World) (_h0 : n0 ≤ 9223372036854775807) (_h1 : n1 ≤ 9223372036854775807) (_h2 : n2 ≤ 9223372036854775807) (h : ¬ (n1 ≤ 100 ∧ n2 ≤ 100 ∧ n0 ≤ 100)) :
    Calls Try.prog 4 #[.int .i64 order, .agg #[.int .i64 one, .slice a0 n0 c0], .slice a1 n1 c1, .slice a2 n2 c2, .int .i64 v] w fun e w' => e = .returned (.bool true) ∧ Below w.heap.size w w' := by
  have hi := Idx.new w (.int .i64 one) (.slice a0 n0 c0)
  have hB := (Below.refl w.heap.size w).alloc (Nat.le_refl _) (.cells #[.int .i64 one, .slice a0 n0 c0] 29)
  have h4 : 100 < n1 ∨ (n1 ≤ 100 ∧ 100 < n2) ∨ (n1 ≤ 100 ∧ n2 ≤ 100 ∧ 100 < n0) := by omega
  clear h
  rcases h4 with h | ⟨h, h2⟩ | ⟨h, h2, h3⟩
  all_goals
    go_enter Try.func4, Try.ntmps4
    go_wp2_with (go_at_call 9; refine (awake_any _).mono ?_; rintro e w1 ⟨rfl, hb1⟩; replace hi := hi.keep hb1; obtain ⟨x0, x1⟩ := hi.cells; replace hB := hB.trans (hb1.mono hB.size); clear hb1)
    go_ret
    exact ⟨rfl, hB⟩

/-- A call's contract from any world that the law has made. -/
abbrev From (w : World) (f : FuncId) (args : Array Value) (R : World → Ending → World → Prop) : Prop := ∀ W, Below w.heap.size w W → Calls Try.prog f args W fun e w' => R W e w'

end Go.Proofs.Ytpppnagodlpnjaa
