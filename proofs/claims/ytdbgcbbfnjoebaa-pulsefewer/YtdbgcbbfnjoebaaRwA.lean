/- What the inner calls of the program's writer come to: whether it is full, a carry, the next byte to the front, writing on. -/
import Derived.Test.YtdbgcbbfnjoebaaRwO
import Derived.Deep.RegionLaw
namespace Go.Proofs.Ytdbgcbbfnjoebaa
open Go.RowKit

theorem full_run (p fn fcap bn bcap : Nat) (fa ba : Option Addr) (w : World) (c0 : w.cell? ⟨p, 0, none⟩ = some (.slice fa fn fcap)) (c3 : w.cell? ⟨p, 3, none⟩ = some (.slice ba bn bcap)) (hf : fn ≤ 10000) (hb : bn ≤ 10000) :
    Calls Try.prog 73 #[.pointer (some ⟨p, 0, none⟩)] w fun e w' => e = .returned (.bool (decide (1275 ≤ fn + bn))) ∧ ∃ k, w' = w.drewN k := by
  have HE : Hid (decide ((1275 : Int) ≤ (fn : Int) + bn) = decide (1275 ≤ fn + bn)) := by
    show _ = _
    apply decide_eq_decide.2
    omega
  go_enter Try.func73, Try.ntmps73
  go_wp2
  go_quiet (fail)
  go_wp2
  go_ret
  exact ⟨by rw [← HE.out]; rfl, _, rfl⟩

theorem wrap_u8_succ (x : Nat) (h : x < 256) : IntKind.u8.wrap ((x : Int) + 1) = if x = 255 then 0 else (x : Int) + 1 := by
  have h1 : ∀ y : Fin 256, IntKind.u8.wrap ((y.val : Int) + 1) = if y.val = 255 then 0 else (y.val : Int) + 1 := by decide +kernel
  exact h1 ⟨x, h⟩

set_option maxHeartbeats 1600000 in
theorem carry_run (g n c cap : Nat) (f : Nat → Value) (l : List Nat) (w : World) (hn : n ≤ 10000) (hc : n ≤ cap) (hrow : w.rowIs g 5 cap f) (hf : Holds f n l) (hl : n ≤ l.length) (hb : Bytes l) (hroom : preN l n + 1 < 256 ^ n) :
    Calls Try.prog 45 #[.slice (some ⟨g, 0, none⟩) n c] w fun e w' => e = .returned (.tuple #[]) ∧ But g w w' ∧ w'.rowIs g 5 cap (fun i => if i < n then .int .u8 (byteAt (carryN n l) i) else f i) := by
  obtain ⟨E, hE⟩ : ∃ E, carryN n l = E := ⟨_, rfl⟩
  rw [hE]
  have H0 : Hid (carryN n l = E ∧ preN l n + 1 < 256 ^ n ∧ Bytes l ∧ n ≤ l.length ∧ w.rowIs g 5 cap (fun i => if i < n then .int .u8 (byteAt l i) else f i)) :=
    ⟨hE, hroom, hb, hl, hrow.congr fun i _ => by split; exact hf i (by assumption); rfl⟩
  clear hE hroom hb hl hrow hf
  go_enter Try.func45, Try.ntmps45
  go_wp2
  go_loopg [2] n (fun k i W => ∃ cur, i = .int .i64 ((k : Int) - 1) ∧ k ≤ n ∧ But g w W ∧ Hid (carryN k cur = E ∧ preN cur k + 1 < 256 ^ k ∧ Bytes cur ∧ n ≤ cur.length ∧ W.rowIs g 5 cap (fun i => if i < n then .int .u8 (byteAt cur i) else f i)))
  case atStart => exact ⟨l, rfl, Nat.le_refl _, But.refl _ _, H0.out⟩
  case round =>
    obtain ⟨cur, rfl, hk, hbut, hr⟩ := hrel
    have hk0 : gk ≠ 0 := fun h => by have := hr.out.2.1; rw [h, Nat.pow_zero] at this; omega
    obtain ⟨m, rfl⟩ : ∃ m, gk = m + 1 := ⟨gk - 1, by omega⟩
    have hx := hr.out.2.2.1 m
    have hl : m < cur.length := by have := hr.out.2.2.2.1; omega
    have q0 : wr.cell? ⟨g, m, none⟩ = some (.int .u8 (byteAt cur m)) := by
      have := hr.out.2.2.2.2.cell (i := m) (by omega)
      rw [if_pos (by omega)] at this
      exact this
    have qf := hr.out.2.2.2.2.frozen
    have HS : Hid (∀ v : Nat, ∀ z : Int, z = v → (wr.setCell ⟨g, m, none⟩ (.int .u8 z)).rowIs g 5 cap (fun i => if i < n then .int .u8 (byteAt (cur.set m v) i) else f i)) := fun v z hz => by
      subst hz
      refine (hr.out.2.2.2.2.set m _).congr fun j _ => ?_
      show (if j = m then _ else if j < n then _ else _) = _
      rw [byteAt_set]
      by_cases h1 : j = m
      · rw [if_pos h1, if_pos (by omega), if_pos ⟨h1, hl⟩]
      · rw [if_neg h1, if_neg (fun h : j = m ∧ _ => h1 h.1)]
    have hi : ((m + 1 : Nat) : Int) - 1 = m := by omega
    have HX : Hid (∃ x, byteAt cur m = x) := ⟨_, rfl⟩
    obtain ⟨x, hxe⟩ := HX.out
    have HXE : Hid (byteAt cur m = x) := hxe
    rw [hxe] at q0 hx
    clear hxe HX
    have hw := wrap_u8_succ x hx
    by_cases h255 : x = 255
    · subst h255
      rw [if_pos rfl] at hw
      go_wp2
      go_roundg m
      case measure => omega
      case rel =>
        obtain ⟨r1, r2, r3, r4, r5⟩ := hr.out
        have e0 : preN cur (m + 1) = 256 * preN cur m + byteAt cur m := rfl
        rw [e0, HXE.out, Nat.pow_succ] at r2
        refine ⟨cur.set m 0, by simp, by omega, hbut.set _ _, ?_, ?_, bytes_set r3 m (by decide), by rw [List.length_set]; exact r4, HS.out 0 0 rfl⟩
        · rw [← r1]
          show carryN m (cur.set m 0) = (if byteAt cur m = 255 then carryN m (cur.set m 0) else _)
          rw [if_pos HXE.out]
        · rw [preN_set (Nat.le_refl m)]
          generalize 256 ^ m = q at *
          omega
    · rw [if_neg h255] at hw
      have hne : ((x : Int) + 1 != 0) = true := bne_iff_ne.2 (by omega)
      go_wp2
      refine bodyPost_ret (results_none rfl _ _ _) rfl ?_
      refine ⟨rfl, hbut.set _ _, ?_⟩
      have r1 := hr.out.1
      have e : cur.set m (x + 1) = E := by
        rw [← r1]
        show cur.set m (x + 1) = (if byteAt cur m = 255 then carryN m (cur.set m 0) else cur.set m (byteAt cur m + 1))
        rw [if_neg (by rw [HXE.out]; exact h255), HXE.out]
      rw [← e]
      exact HS.out (x + 1) _ (by omega)

theorem carried_step {s : Es} : frontE s = if 1275 ≤ s.front.length + s.back.length then s.front else carried s ++ [s.low / 8388608 % 256] := rfl

theorem info_bytes : ∃ i, Try.prog.info? 5 = some i ∧ i.zero = some (.int .u8 0) ∧ i.size = 1 ∧ i.bytes = 1 := by
  obtain ⟨i, hi, hzz⟩ := Option.map_eq_some_iff.1 info_uint8
  simp only [Prod.mk.injEq] at hzz
  exact ⟨i, hi, hzz⟩

theorem wrap_u8_nat (x : Nat) : IntKind.u8.wrap (x : Int) = (x % 256 : Nat) := by
  rw [IntKind.wrap_u8]
  omega

theorem wrap_u8_div (x : Nat) (_h : x ≤ 4294967296) : IntKind.u8.wrap (IntKind.i64.wrap ((x : Int) / 8388608)) = (x / 8388608 % 256 : Nat) := by
  rw [IntKind.wrap_i64, IntKind.wrap_u8]
  omega

theorem grown_drew_alloc (w : World) (o : Obj) : w.grownBy (w.drew.alloc o) none := ⟨rfl, rfl, rfl, by show w.heap.size ≤ (w.drew.alloc o).heap.size; simp, fun _ hk _ => Below.heap_alloc w.drew _ _ hk⟩

theorem grown_alloc_drew (w : World) (o : Obj) : w.grownBy (w.alloc o).drew none := ⟨rfl, rfl, rfl, by show w.heap.size ≤ (w.alloc o).heap.size; simp, fun _ hk _ => Below.heap_alloc w _ _ hk⟩

/-- 'append' of one byte onto a writer's slice, as one step of a region that draws: the byte has been laid into a block of its own. -/
theorem step_append_byte {ops : Array Oper} {o : Oper} {a : Act} {w W : World} {K : Act → World → Prop} {Q : Exit → Act → World → Prop} {E : Prop} (hgw : w.grownBy W none) (y : Nat) (z : Int) (hz : z = y)
    (hnew : W.heap[w.heap.size]? = some (.cells #[.int .u8 z] 5)) (v : Value) (n : Nat) (bs : List Nat)
    (hown : w.ownsRow 0 5 1 v n (bvals bs)) (hn : n ≤ 10000) (p : Nat) (hp : p < w.heap.size) (hpv : v.ownBlock ≠ some p)
    (hg : o.guard = none) (s x : Operand)
    (ho : o.op = .call { callee := .builtin .append, args := #[s, x], argTypes := #[35, 35] })
    (hs : a.eval s = v) (hx : a.eval x = .slice (some ⟨w.heap.size, 0, none⟩) 1 1)
    (h : ∀ g cap w', w'.ownsRow 0 5 1 (.slice (some ⟨g, 0, none⟩) (n + 1) cap) (n + 1) (bvals (bs ++ [y])) → w.grownBy w' v.ownBlock → (v.ownBlock = some g ∨ w.heap.size ≤ g) →
      (∀ i, w'.cell? ⟨p, i, none⟩ = w.cell? ⟨p, i, none⟩) → (∀ i, w'.frozen? ⟨p, i, none⟩ = w.frozen? ⟨p, i, none⟩) → K (a.put o.dst (.slice (some ⟨g, 0, none⟩) (n + 1) cap)) w') :
    if Region.wanted o (yielded ops a.tmps) = true then Oper.wp Try.prog o a W K Q else E := by
  subst hz
  obtain ⟨i, hi, h1, h2, h3⟩ := info_bytes
  have hownW : W.ownsRow 0 5 1 v n (bvals bs) := ownsRow_of_block hown fun k hk => hgw.block k (ownBlock_lt hown hk) (fun e => by cases e)
  refine step_append_lies _ hg s x 35 ho 0 5 i (.int .u8 0) 1 1 Try.underlying35 hi h1 h2 h3 rfl (by decide) v n (bvals bs) hs hownW ⟨w.heap.size, 0, none⟩ 1 1 [.int .u8 y] hx rfl
    (World.news_of_block hnew)
    (by intro u hu; simp at hu; subst hu; rfl) (by decide) (by unfold maxLen; omega) (by omega) (Nat.zero_le _) _ rfl ?_
  intro g cap w' h4 h5 h6 _
  have e1 : bvals (bs ++ [y]) = bvals bs ++ [.int .u8 y] := by simp [bvals]
  have hgr : w.grownBy w' v.ownBlock := ⟨h5.os.trans hgw.os, h5.tape.trans hgw.tape, h5.output.trans hgw.output, Nat.le_trans hgw.size h5.size, fun k hk hne => by
    rw [h5.block k (Nat.lt_of_lt_of_le hk hgw.size) hne]
    exact hgw.block k hk (fun e => by cases e)⟩
  refine h g cap w' (by rw [e1]; exact h4) hgr ?_ (fun i => World.cell?_of_block (w := w) (hgr.block p hp (fun e => hpv e.symm))) (fun i => World.frozen?_of_block (w := w) (hgr.block p hp (fun e => hpv e.symm)))
  rcases h6 with h6 | h6
  · exact .inl h6
  · right; rw [h6]; exact hgw.size

theorem We.frontDone {S : Nat → Prop} {p n fcap g2 cap2 y : Nat} {fa : Option Addr} {bv : Value} {s : Es} {w1 w2 : World} (h : We S p (.slice fa n fcap) bv s w1) (hl : s.front.length = n) (hg : w1.grownBy w2 (Value.slice fa n fcap).ownBlock)
    (ho : w2.ownsRow 0 5 1 (.slice (some ⟨g2, 0, none⟩) (n + 1) cap2) (n + 1) (bvals (s.front ++ [y]))) (hat : (Value.slice fa n fcap).ownBlock = some g2 ∨ w1.heap.size ≤ g2) :
    ∃ S', Wd S' p { s with front := s.front ++ [y] } (w2.setCell ⟨p, 0, none⟩ (.slice (some ⟨g2, 0, none⟩) (n + 1) cap2)) ∧ Went S w1 S' (w2.setCell ⟨p, 0, none⟩ (.slice (some ⟨g2, 0, none⟩) (n + 1) cap2)) := by
  obtain ⟨S', h1, h2⟩ := h.setFrontRow (bs := s.front ++ [y]) hg (by rw [List.length_append, hl]; exact ho) (fun k hk => by cases hk; exact hat)
  exact ⟨S', ⟨_, _, h1⟩, h2⟩

theorem We.backDone {S : Nat → Prop} {p n bcap g2 cap2 y : Nat} {ba : Option Addr} {fv : Value} {s : Es} {w1 w2 : World} (h : We S p fv (.slice ba n bcap) s w1) (hl : s.back.length = n) (hg : w1.grownBy w2 (Value.slice ba n bcap).ownBlock)
    (ho : w2.ownsRow 0 5 1 (.slice (some ⟨g2, 0, none⟩) (n + 1) cap2) (n + 1) (bvals (s.back ++ [y]))) (hat : (Value.slice ba n bcap).ownBlock = some g2 ∨ w1.heap.size ≤ g2) :
    ∃ S', Wd S' p { s with back := s.back ++ [y] } (w2.setCell ⟨p, 3, none⟩ (.slice (some ⟨g2, 0, none⟩) (n + 1) cap2)) ∧ Went S w1 S' (w2.setCell ⟨p, 3, none⟩ (.slice (some ⟨g2, 0, none⟩) (n + 1) cap2)) := by
  obtain ⟨S', h1, h2⟩ := h.setBackRow (bs := s.back ++ [y]) hg (by rw [List.length_append, hl]; exact ho) (fun k hk => by cases hk; exact hat)
  exact ⟨S', ⟨_, _, h1⟩, h2⟩

set_option maxRecDepth 100000 in
set_option maxHeartbeats 1600000 in
theorem toFront_any (S : Nat → Prop) (p : Nat) (s : Es) (w : World) (h : Wd S p s w) (hp : PreE s) :
    Calls Try.prog 78 #[.pointer (some ⟨p, 0, none⟩)] w fun e w' => e = .returned (.tuple #[]) ∧ ∃ S', Wd S' p { s with front := frontE s } w' ∧ Went S w S' w' := by
  obtain ⟨fv, bv, hw⟩ := h
  obtain ⟨fa, fcap, rfl, fn1, fn2⟩ := hw.front.form
  obtain ⟨ba, bcap, rfl, bn1, bn2⟩ := hw.back.form
  have HW : Hid (We S p (.slice fa s.front.length fcap) (.slice ba s.back.length bcap) s w) := hw
  obtain ⟨q0, q1, q2, q3, q4, q5, q6, qf⟩ := hw.fields
  have hlen := hp.len
  have l1 := hp.low
  have l3 : s.low ≤ 4294967296 := by omega
  have hF1 : s.front.length ≤ 10000 := by omega
  have hF2 : s.back.length ≤ 10000 := by omega
  clear hw bn1
  by_cases hfull : 1275 ≤ s.front.length + s.back.length
  · have HE : Hid (frontE s = s.front) := frontE_full hfull
    go_enter Try.func78, Try.ntmps78
    go_wp2_with (go_at_call 73; refine (full_run p _ _ _ _ fa ba _ q0 q3 hF1 hF2).mono ?_; rw [decide_eq_true hfull]; rintro e w' ⟨rfl, k, rfl⟩)
    refine bodyPost_ret (results_none rfl _ _ _) rfl ?_
    refine ⟨rfl, S, ?_, (Went.refl S w).drewN _⟩
    rw [HE.out]
    exact (show Wd S p s w from ⟨_, _, HW.out⟩).drewN _
  · have HE : Hid (frontE s = carried s ++ [s.low / 8388608 % 256]) := frontE_open hfull
    by_cases hlow : 2147483648 ≤ s.low
    · have hroom := hp.room hlow hfull
      have h0 : s.front.length ≠ 0 := fun h => by rw [h, Nat.pow_zero] at hroom; omega
      cases fa with
      | none => exact absurd (fn1 rfl).1 h0
      | some x =>
        obtain ⟨g, rfl, hg1, hg2⟩ := fn2 x rfl
        clear fn2
        obtain ⟨c1, c2, f, c3, c4⟩ := cells_of_owned HW.out.front.owns
        have C1 : Hid (s.front.length ≤ fcap ∧ fcap ≤ maxLen) := ⟨c1, c2⟩
        clear c1 c2
        have HC : Hid (∀ k, (w.drewN k).rowIs g 5 fcap f ∧ Holds f s.front.length s.front ∧ Bytes s.front ∧ preN s.front s.front.length + 1 < 256 ^ s.front.length) := fun k => ⟨c3, c4, hp.front, hroom⟩
        have HLO : Hid (2147483648 ≤ s.low) := hlow
        have hlow2 : (2147483648 : Int) ≤ (s.low : Int) := by omega
        clear hroom c3 c4 hlow h0
        go_enter Try.func78, Try.ntmps78
        go_wp2_with (first
          | (go_at_call 73; refine (full_run p _ _ _ _ (some ⟨g, 0, none⟩) ba _ q0 q3 hF1 hF2).mono ?_; rw [decide_eq_false hfull]; rintro e w' ⟨rfl, k, rfl⟩)
          | (go_at_call 45; refine (carry_run g _ fcap fcap f s.front _ hF1 C1.out.1 (HC.out _).1 (HC.out 0).2.1 (Nat.le_refl _) (HC.out 0).2.2.1 (HC.out 0).2.2.2).mono ?_; rintro e w1 ⟨rfl, hb1, hr1⟩))
        have hrow1 : w1.ownsRow 0 5 1 (.slice (some ⟨g, 0, none⟩) s.front.length fcap) s.front.length (bvals (carried s)) := by
          have e1 : carried s = carryN s.front.length s.front := if_pos HLO.out
          have e2 := owned_of_cells (bs := carried s) (by rw [carried_len]; exact C1.out.1) C1.out.2 hr1 (fun i hi => by rw [carried_len] at hi; rw [if_pos hi, e1])
          rw [carried_len] at e2
          exact e2
        have HW1 : Hid (We S p (.slice (some ⟨g, 0, none⟩) s.front.length fcap) (.slice ba s.back.length bcap) { s with front := carried s } w1) :=
          (show We S p _ _ s (w.drewN k) from HW.out.of_blocks (fun _ _ => rfl) (Nat.le_refl _)).frontTurned (w' := w1) (g := g) rfl hb1 (by rw [carried_len]; exact hrow1)
        have HB1 : Hid (Went S w S w1) := ((Went.refl S w).drewN k).trans (.of_but hb1 hg1)
        obtain ⟨r0, r1, r2, r3, r4, r5, r6, rf⟩ := HW1.out.fields
        have HSZ : Hid (∀ n, p < (w1.drewN n).heap.size) := fun _ => HW1.out.size
        have HPV : Hid ((Value.slice (some ⟨g, 0, none⟩) s.front.length fcap).ownBlock ≠ some p) := fun e => hg2 (by cases e; rfl)
        have HO1 : Hid (w1.ownsRow 0 5 1 (.slice (some ⟨g, 0, none⟩) s.front.length fcap) s.front.length (bvals (carried s))) := hrow1
        have HZ : Hid (IntKind.u8.wrap (IntKind.i64.wrap ((s.low : Int) / 8388608)) = (s.low / 8388608 % 256 : Nat)) := wrap_u8_div s.low l3
        have HSZ : Hid (p < w1.heap.size) := HW1.out.size
        have HPV : Hid ((Value.slice (some ⟨g, 0, none⟩) s.front.length fcap).ownBlock ≠ some p) := fun e => hg2 (by cases e; rfl)
        clear hr1 hrow1 hb1 q0 q1 q2 q3 q4 q5 q6 qf HC
        have HA : ∀ o, (w1.alloc o).cell? ⟨p, 0, none⟩ = some (.slice (some ⟨g, 0, none⟩) s.front.length fcap) := fun o => (World.cell?_of_block (w := w1) (Below.heap_alloc w1 o p HSZ.out)).trans r0
        go_region_law ((refine step_append_byte (w := w1) (by first | exact grown_alloc_drew w1 _ | exact grown_drew_alloc w1 _) (s.low / 8388608 % 256) _ HZ.out (by first | exact heap_alloc_new w1 _ | exact heap_alloc_new w1.drew _) (.slice (some ⟨g, 0, none⟩) s.front.length fcap) s.front.length (carried s) HO1.out hF1 p HSZ.out HPV.out (by rfl) (.tmp 18) (.tmp 25) (by rfl) (by rfl) (by rfl) ?_; intro g2 cap2 w2 ho2 hg2 hat2 hcc hff))
        all_goals
          go_end0
          obtain ⟨S', k1, k2⟩ := HW1.out.frontDone (carried_len s) hg2 ho2 hat2
          refine ⟨rfl, S', ?_, HB1.out.trans k2⟩
          rw [HE.out]
          exact k1
    · have hC : carried s = s.front := if_neg hlow
      have HE2 : Hid (frontE s = s.front ++ [s.low / 8388608 % 256]) := by rw [← hC]; exact HE.out
      have hlow2 : ((2147483648 : Int) ≤ (s.low : Int)) = False := eq_false (by omega)
      have HZ : Hid (IntKind.u8.wrap (IntKind.i64.wrap ((s.low : Int) / 8388608)) = (s.low / 8388608 % 256 : Nat)) := wrap_u8_div s.low l3
      have HPV : Hid ((Value.slice fa s.front.length fcap).ownBlock ≠ some p) := fun e => (HW.out.front.mine p e).2 rfl
      have HW1 : Hid (∀ k, We S p (.slice fa s.front.length fcap) (.slice ba s.back.length bcap) s (w.drewN k)) := fun k => HW.out.of_blocks (fun _ _ => rfl) (Nat.le_refl _)
      have HO1 : Hid (∀ k, (w.drewN k).ownsRow 0 5 1 (.slice fa s.front.length fcap) s.front.length (bvals s.front)) := fun k => (HW1.out k).front.owns
      have HSZ : Hid (∀ k, p < (w.drewN k).heap.size) := fun k => (HW1.out k).size
      have HA : ∀ k o, ((w.drewN k).alloc o).cell? ⟨p, 0, none⟩ = some (.slice fa s.front.length fcap) := fun k o => (World.cell?_of_block (w := w.drewN k) (Below.heap_alloc (w.drewN k) o p (HSZ.out k))).trans q0
      clear hlow hC HE fn1 fn2 bn2
      go_enter Try.func78, Try.ntmps78
      go_wp2_with (go_at_call 73; refine (full_run p _ _ _ _ fa ba _ q0 q3 hF1 hF2).mono ?_; rw [decide_eq_false hfull]; rintro e w' ⟨rfl, k, rfl⟩)
      go_region_law ((refine step_append_byte (w := w.drewN k) (by first | exact grown_alloc_drew (w.drewN k) _ | exact grown_drew_alloc (w.drewN k) _) (s.low / 8388608 % 256) _ HZ.out (by first | exact heap_alloc_new (w.drewN k) _ | exact heap_alloc_new (w.drewN k).drew _) (.slice fa s.front.length fcap) s.front.length s.front (HO1.out k) hF1 p (HSZ.out k) HPV.out (by rfl) (.tmp 18) (.tmp 25) (by rfl) (by rfl) (by rfl) ?_; intro g2 cap2 w2 ho2 hg2 hat2 hcc hff))
      all_goals
        go_end0
        obtain ⟨S', k1, k2⟩ := (HW1.out k).frontDone rfl hg2 ho2 hat2
        refine ⟨rfl, S', ?_, ((Went.refl S w).drewN k).trans k2⟩
        rw [HE2.out]
        exact k1

end Go.Proofs.Ytdbgcbbfnjoebaa
