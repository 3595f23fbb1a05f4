/- Pulses that are written are read; others are refused, and nothing is written: wherever the list lies. -/
import Derived.Test.YtdbgcbbfnjoebaaPulseV
import Derived.Test.YtdbgcbbfnjoebaaPulseT
namespace Go.Proofs.Ytdbgcbbfnjoebaa
open Go.RowKit

/-- 'append([]int64{}, l...)': a copy of the call's own, its capacity told. -/
theorem wpList_append_own {ops : Array Oper} {rest : List Oper} {o : Oper} {a : Act} {w : World} {Q : Exit → Act → World → Prop} (xo : Option Addr) (n cap : Nat) (zs : List Int)
    (hl : zs.length = n) (hn : n ≤ 1000) (hc : 0 < n → ∃ x, xo = some x ∧ ∀ i, i < n → w.cell? (x.add i) = some (.int .i64 (zs[i]?.getD 0)))
    (hgd : o.guard = none) (s x : Operand)
    (ho : o.op = .call { callee := .builtin .append, args := #[s, x], argTypes := #[23, 23] })
    (hs : a.eval s = .slice (some ⟨w.heap.size, 0, none⟩) 0 0) (hx : a.eval x = .slice xo n cap)
    (h : ∀ r c w', NewRow 2 w.heap.size w' r zs → n ≤ c → Below w.heap.size w w' → wpList Try.prog ops Q rest (a.put o.dst (.slice r n c)) w') :
    wpList Try.prog ops Q (o :: rest) a (w.alloc (.cells #[] 2)) := by
  rcases Nat.eq_zero_or_pos n with h0 | h0
  · subst h0
    have hz : zs = [] := List.eq_nil_of_length_eq_zero hl
    have hw : Region.wanted o (yielded ops a.tmps) = true := by simp [Region.wanted, hgd]
    refine wpList_append_copy 23 2 Try.underlying23 info_int64 xo 0 cap zs hl (by decide) hc hw s x ho hs hx ?_
    intro r c w' h1 h2
    exact h r c w' h1 (Nat.zero_le _) h2
  · obtain ⟨ad, rfl, hcc⟩ := hc h0
    obtain ⟨i, hi, hzz⟩ := Option.map_eq_some_iff.1 info_int64
    simp only [Prod.mk.injEq] at hzz
    obtain ⟨hz, hsz, hby⟩ := hzz
    have hown : (w.alloc (.cells #[] 2)).ownsRow w.heap.size 2 1 (.slice (some ⟨w.heap.size, 0, none⟩) 0 0) 0 [] := World.ownsRow_made w #[] 0 (Nat.le_refl _) (by decide) rfl
    refine wpList_append_lies _ hgd s x 23 ho w.heap.size 2 i (.int .i64 0) 1 8 Try.underlying23 hi hz hsz hby rfl (by decide) _ 0 _ hs hown ad n cap (zs.map (Value.int .i64)) hx (by rw [List.length_map, hl, Nat.mul_one])
      (by
        intro j u hj
        rcases Nat.lt_or_ge j zs.length with h1 | h1
        · have h2 := hcc j (by omega)
          rw [List.getElem?_map, List.getElem?_eq_getElem h1] at hj
          rw [List.getElem?_eq_getElem h1] at h2
          simp only [Option.map_some, Option.some.injEq, Option.getD_some] at hj h2
          subst hj
          rw [← h2]
          exact World.cell?_of_block (Below.heap_alloc w _ _ (World.block_lt_of_cell? w _ h2))
        · rw [List.getElem?_eq_none (by simpa using h1)] at hj; cases hj)
      (by intro u hu; obtain ⟨q, _, rfl⟩ := List.mem_map.1 hu; rfl) h0 (by unfold maxLen; omega) (by omega) (by simp) _ rfl ?_
    intro g' c' w' h4 h5 _ _
    rw [Nat.zero_add, List.nil_append] at h4
    have hcap : n ≤ c' := by
      obtain ⟨_, h6 | ⟨g, cp, cur, hv, _, _, h7, _⟩⟩ := h4
      · cases h6.1
      · cases hv; exact h7
    obtain ⟨_, a', c, ev, hnew⟩ := NewRow.of_owned h4
    cases ev
    have hb : Below w.heap.size w w' := ((Below.refl _ w).alloc (Nat.le_refl _) _).grown h5 (by simp) (fun k hk => by simp [Value.ownBlock] at hk; omega)
    have := h _ _ w' hnew hcap hb
    rw [Nat.zero_add]
    exact this

theorem goodL_len {zs : List Int} (h : goodL zs = true) : 16 ≤ zs.length ∧ zs.length ≤ 480 := by
  obtain ⟨m, h1, h2, h3⟩ := goodL_iff.1 h
  have := goodN_len m zs h3
  omega

set_option maxRecDepth 100000 in
set_option maxHeartbeats 3200000 in
theorem pulseBack.bad (a : Option Addr) (n cap : Nat) (zs : List Int) (w : World) (hz : Zs w a n zs) (hcap : n ≤ cap) (hn : n ≤ 9223372036854775807) (hg : goodL zs = false) :
    Calls Try.prog 5 #[.slice a n cap] w fun e w' => e = .returned (.bool true) ∧ Below w.heap.size w w' := by
  have hb := Below.refl w.heap.size w
  have HZ : Hid (∀ W, Below w.heap.size w W → Zs W a n zs) := fun W hW => hz.keep hW
  have HG : Hid (goodL zs = false ∧ zs.length = n ∧ n ≤ cap) := ⟨hg, hz.len, hcap⟩
  have CI : Hid (initE.cnt ≤ 1000 ∧ tellS initE = 1) := ⟨by decide, by decide +kernel⟩
  by_cases hfar : 1000 < n
  · have h1 : (1000 : Int) < n := by omega
    clear hz hcap hn hg hfar
    go_enter Try.func5, Try.ntmps5
    go_wp2_with (first
      | (go_at_call 9; refine (awake_any _).mono ?_; rintro e w1 ⟨rfl, hb1⟩; replace hb := hb.trans (hb1.mono hb.size); clear hb1)
      | (go_at_call 12; go_loud (refine (newE_any _).mono ?_; rintro e w1 ⟨p, S, rfl, he, hS, hb1⟩; replace hb := hb.trans (hb1.mono hb.size); clear hb1 hS))
      | (go_at_call 14; go_loud (refine (write_bad p a n cap zs _ (HZ.out _ hb) HG.out.2.2 HG.out.1).mono ?_; rintro e w2 ⟨rfl, rfl⟩)))
    go_ret
    exact ⟨rfl, hb⟩
  · have h1 : (n : Int) ≤ 1000 := by omega
    have HN : Hid (n ≤ 1000) := by show _ ≤ _; omega
    clear hz hcap hn hg hfar
    go_enter Try.func5, Try.ntmps5
    go_wp2_with (first
      | (go_at_call 9; refine (awake_any _).mono ?_; rintro e w1 ⟨rfl, hb1⟩; replace hb := hb.trans (hb1.mono hb.size); clear hb1)
      | (go_at_call 12; go_loud (refine (newE_any _).mono ?_; rintro e w1 ⟨p, S, rfl, he, hS, hb1⟩; replace hb := hb.trans (hb1.mono hb.size); clear hb1 hS))
      | (go_at_call 22; go_loud (refine (rgoodp_any a n cap zs _ (HZ.out _ hb)).mono ?_; rw [HG.out.1]; rintro e w2 ⟨rfl, rfl⟩))
      | (at_builtin; go_loud (refine wpList_append_own a n cap zs HG.out.2.1 HN.out (fun h => zs_adds (HZ.out _ hb) h) rfl _ _ rfl rfl rfl ?_; intro r3 c3 w3 hr3 hc3 hb3; have he3 := he.keep hb3; replace hb := hb.trans (hb3.mono hb.size); clear hb3 he))
      | (go_at_call 14; go_loud (refine (write_bad p r3 n c3 zs _ (Zs.of_new hr3 HG.out.2.1) hc3 HG.out.1).mono ?_; rintro e w4 ⟨rfl, rfl⟩))
      | (go_at_call 13; go_loud (refine (pgood_any a n cap zs _ (HZ.out _ hb) HG.out.2.2).mono ?_; rw [HG.out.1]; rintro e w5 ⟨rfl, rfl⟩))
      | (go_at_call 15; go_loud (refine (tellE_any S p initE _ he3 initE_inv.wide initE_inv.pre.rhigh (by have := CI.out.1; omega)).mono ?_; rw [CI.out.2]; rintro e w6 ⟨rfl, k, rfl⟩; replace hb := below_drewN hb k)))
    go_ret
    exact ⟨rfl, hb⟩

set_option maxRecDepth 100000 in
set_option maxHeartbeats 3200000 in
theorem pulseBack.good (a : Option Addr) (n cap : Nat) (zs : List Int) (w : World) (hz : Zs w a n zs) (hcap : n ≤ cap) (hg : goodL zs = true) :
    Calls Try.prog 5 #[.slice a n cap] w fun e w' => e = .returned (.bool true) ∧ Below w.heap.size w w' := by
  have hb := Below.refl w.heap.size w
  have hl := hz.len
  obtain ⟨m, hm1, hm, hgn⟩ := goodL_iff.1 hg
  have hlen := goodN_len m zs hgn
  have HZ : Hid (∀ W, Below w.heap.size w W → Zs W a n zs) := fun W hW => hz.keep hW
  have hmay := blocksL_may m zs hgn
  have hbl := blocksL_len m zs hgn
  have by0 := byA hmay
  obtain ⟨E, hE⟩ : ∃ E, writesA (blocksL m zs) initE = E := ⟨_, rfl⟩
  rw [hE] at by0
  have hin := by0.inv
  have hcn := by0.cnt
  have hcn2 : E.cnt ≤ 1000000 := by omega
  obtain ⟨T, hT⟩ : ∃ T, tellS E = T := ⟨_, rfl⟩
  have HG : Hid (goodL zs = true ∧ zs.length = n ∧ n ≤ cap ∧ n ≤ 480 ∧ goodN m zs ∧ 1 ≤ m ∧ m ≤ 30 ∧ InvE E ∧ E.cnt ≤ 1000000 ∧ n = 16 * m ∧ writesA (blocksL m zs) initE = E) := ⟨hg, hl, hcap, by omega, hgn, hm1, hm, hin, hcn2, by omega, hE⟩
  have CI : Hid (initE.cnt ≤ 1000) := by show _ ≤ _; decide
  have HTE : Hid (∀ p S W, Wd S p E W → Calls Try.prog 15 #[.pointer (some ⟨p, 0, none⟩)] W fun e w' => e = .returned (.int .i64 T) ∧ ∃ k, w' = W.drewN k) := fun p S W h => by
    have := tellE_any S p E W h hin.wide hin.pre.rhigh (by omega)
    rw [hT] at this
    exact this
  have HWR : Hid (∀ (S : Nat → Prop) (p B g c : Nat) (W : World), Wd S p initE W → n ≤ c → NewRow 2 B W (some ⟨g, 0, none⟩) zs → ¬ S g → Calls Try.prog 14 #[.pointer (some ⟨p, 0, none⟩), .slice (some ⟨g, 0, none⟩) n c] W fun e w' => e = .returned (.int .i64 0) ∧ ∃ S', Wd S' p E w' ∧ Went S W S' w') := fun S p B g c W h1 h2 h3 h4 => by
    have := write_new S p initE B g n c m zs W h1 initE_inv (by have := CI.out; omega) hl h2 hgn hm1 hm h3 h4
    rw [hE] at this
    exact this.mono (fun e w' ⟨h5, S', h6, h7, _⟩ => ⟨h5, S', h6, h7⟩)
  have h1 : (n : Int) ≤ 1000 := by omega
  have hn0 : 0 < n := by omega
  by_cases htell : T ≤ 8 * ((1275 : Nat) : Int)
  · obtain ⟨d1, d2, d3, d4, d5⟩ := by0.told (n := 1275) (by decide) (by rw [hT]; exact htell)
    obtain ⟨L, hL⟩ : ∃ L, doneL E 1275 = L := ⟨_, rfl⟩
    rw [hL] at d2 d3 d4 d5
    obtain ⟨s', e1, _, e3⟩ := blocks_back (b := L) m zs [] (initS L) hgn (by rw [List.append_nil]; exact d3)
    rw [← e3] at d4 d5
    rw [hT] at d4
    obtain ⟨s0, hs0⟩ : ∃ s, initS L = s := ⟨_, rfl⟩
    rw [hs0] at e1
    have I0 : Inv s0 := by rw [← hs0]; exact initS_inv d2
    have C0 : s0.cnt ≤ 1000 := by rw [← hs0, init_cnt]; decide
    have c1 := blocksV_cnt d2 m s0 I0
    rw [e1] at c1
    have c1 : s'.cnt ≤ s0.cnt + 1920 * m := c1
    have HD : Hid (∀ p S W, Wd S p E W → Calls Try.prog 23 #[.pointer (some ⟨p, 0, none⟩), .int .i64 1275] W fun e w' => ∃ a cap, e = .returned (.tuple #[.slice a 1275 cap, .int .i64 0]) ∧ w'.ownsRow W.heap.size 5 1 (.slice a 1275 cap) 1275 (bvals L) ∧ Below W.heap.size W w') := fun p S W h => by
      have := doneE_int S p E 1275 1275 rfl W h d1 (by rw [hT]; exact htell) (by omega)
      rw [hL] at this
      exact this
    have HBY : Hid (Bytes L ∧ L ≠ []) := ⟨d2, fun e => by have := doneL_len E 1275; rw [hL, e] at this; simp at this⟩
    have HNR : Hid (∀ p q W, Rr p q L (initS L) W → Rr p q L s0 W) := fun p q W h => by rw [← hs0]; exact h
    have HRP : Hid (∀ p q W, Rr p q L s0 W → (L ≠ [] → q < W.heap.size) → Calls Try.prog 19 #[.pointer (some ⟨p, 0, none⟩), .int .i64 n] W fun e w' => ∃ a cap, e = .returned (.slice a n cap) ∧ NewRow 2 W.heap.size w' a zs ∧ Rr p q L s' w' ∧ Went (fun k => k = p) W (fun k => k = p) w') := fun p q W hW hq => by
      have := rpulses_any p q L s0 m n W hW hq I0 (by omega) (by omega) hm1 hm
      rw [e1] at this
      exact this
    have HTR : Hid (∀ p q W, Rr p q L s' W → Calls Try.prog 21 #[.pointer (some ⟨p, 0, none⟩)] W fun e w' => e = .returned (.int .i64 T) ∧ ∃ k, w' = W.drewN k) := fun p q W h => by
      have := rtell_any p q L s' W h d5 (by omega)
      rw [d4] at this
      exact this
    clear hz hcap hg hl hgn hlen hmay hbl by0 hE hin hcn hcn2 hT htell d1 d2 d3 d4 d5 hL e1 e3 hs0 I0 C0 c1 hm1 hm
    go_enter Try.func5, Try.ntmps5
    go_wp2_with (first
      | (go_at_call 9; refine (awake_any _).mono ?_; rintro e w1 ⟨rfl, hb1⟩; replace hb := hb.trans (hb1.mono hb.size); clear hb1)
      | (go_at_call 12; go_loud (refine (newE_any _).mono ?_; rintro e w2 ⟨p, S, rfl, he, hS, hb1⟩; replace hS := fun k hk => Nat.le_trans hb.size (hS k hk); replace hb := hb.trans (hb1.mono hb.size); clear hb1))
      | (go_at_call 22; go_loud (refine (rgoodp_any a n cap zs _ (HZ.out _ hb)).mono ?_; rw [HG.out.1]; rintro e w2b ⟨rfl, rfl⟩))
      | (at_builtin; go_loud (refine wpList_append_own a n cap zs HG.out.2.1 (by have := HG.out.2.2.2.1; omega) (fun h => zs_adds (HZ.out _ hb) h) rfl _ _ rfl rfl rfl ?_; intro r3 c3 w3 hr3 hc3 hb3; obtain ⟨g3, rfl, hg3, _⟩ := hr3.some_of (by have := HG.out.2.1; omega); have hSg : ¬ S g3 := (fun h => by have := he.lt _ h; omega); have he3 := he.keep hb3; have hbA := hb.trans (hb3.mono hb.size); clear hb3 he))
      | (go_at_call 14; go_loud (refine (HWR.out S p _ g3 c3 _ he3 hc3 hr3 hSg).mono ?_; rintro e w4 ⟨rfl, S4, he4, hw4⟩; have hbB := hbA.trans (hw4.below hS hbA.size); clear he3 hw4 hr3))
      | (go_at_call 13; go_loud (refine (pgood_any a n cap zs _ (HZ.out _ hbB) HG.out.2.2.1).mono ?_; rw [HG.out.1]; rintro e w5 ⟨rfl, rfl⟩))
      | (go_at_call 23; go_loud (refine (HD.out p S4 _ he4).mono ?_; rintro e w6 ⟨a6, cap6, rfl, ho6, hb6⟩; obtain ⟨g6, hag, hg6⟩ := told_arg HBY.out.1 (by decide) ho6; have he6 := he4.keep hb6; have hbC := hbB.trans (hb6.mono hbB.size); clear hb6 ho6 he4))
      | (go_at_call 18; go_loud (refine (rnew_any g6 a6 1275 cap6 L _ hag).mono ?_; rintro e w7 ⟨pe, rfl, hr, hpe, hb7⟩; replace hr := HNR.out _ _ _ hr; have hge : L ≠ [] → homeOf 1275 g6 pe < w7.heap.size := (fun _ => by rw [homeOf, if_pos (by decide)]; exact Nat.lt_of_lt_of_le (hg6 (by decide)).2 hb7.size); have he7 := he6.keep hb7; have hbD := hbC.trans (hb7.mono hbC.size); have hpB := Nat.le_trans hbC.size hpe; have hSp : ¬ S4 pe := (fun h => by have := he6.lt _ h; omega); generalize homeOf 1275 g6 pe = ge at *; clear hb7 he6))
      | (go_at_call 19; go_loud (refine (HRP.out pe ge _ hr hge).mono ?_; rintro e w8 ⟨a8, cap8, rfl, hr8, hre8, hw8⟩; have he8 := he7.went hw8 (fun k hk h => hSp (h ▸ hk)); have hbE := hbD.trans (hw8.below (fun k hk => hk ▸ hpB) hbD.size); clear hr he7 hw8))
      | (go_at_call 20; go_loud (refine (zsame_any _ _ n cap8 cap zs _ (Zs.of_new hr8 HG.out.2.1) (HZ.out _ hbE) (by have := HG.out.2.2.2.1; omega)).mono ?_; rintro e w9 ⟨rfl, k9, rfl⟩; have hbF := below_drewN hbE k9; have he9 := he8.drewN k9; have hre9 := hre8.drewN k9))
      | (go_at_call 21; go_loud (refine (HTR.out pe ge _ hre9).mono ?_; rintro e w10 ⟨rfl, k10, rfl⟩; have hbG := below_drewN hbF k10; have he10 := he9.drewN k10; (try rw [World.drewN_drewN] at hbG he10)))
      | (go_at_call 15; go_loud (refine (HTE.out p S4 _ he10).mono ?_; rintro e w11 ⟨rfl, k11, rfl⟩; have hbH := below_drewN hbG k11; (try rw [World.drewN_drewN] at hbH))))
    go_ret
    exact ⟨rfl, hbH⟩
  · have HD : Hid (∀ p S W, Wd S p E W → Calls Try.prog 23 #[.pointer (some ⟨p, 0, none⟩), .int .i64 1275] W fun e w' => e = .returned (.tuple #[.slice none 0 0, .int .i64 2]) ∧ ∃ k, w' = W.drewN k) := fun p S W h =>
      doneE_few_int S p E 1275 1275 rfl W h hin (by decide) (by rw [hT]; omega) (by omega)
    clear hz hcap hg hl hgn hlen hmay hbl by0 hE hin hcn hcn2 hT htell hm1 hm
    go_enter Try.func5, Try.ntmps5
    go_wp2_with (first
      | (go_at_call 9; refine (awake_any _).mono ?_; rintro e w1 ⟨rfl, hb1⟩; replace hb := hb.trans (hb1.mono hb.size); clear hb1)
      | (go_at_call 12; go_loud (refine (newE_any _).mono ?_; rintro e w2 ⟨p, S, rfl, he, hS, hb1⟩; replace hS := fun k hk => Nat.le_trans hb.size (hS k hk); replace hb := hb.trans (hb1.mono hb.size); clear hb1))
      | (go_at_call 22; go_loud (refine (rgoodp_any a n cap zs _ (HZ.out _ hb)).mono ?_; rw [HG.out.1]; rintro e w2b ⟨rfl, rfl⟩))
      | (at_builtin; go_loud (refine wpList_append_own a n cap zs HG.out.2.1 (by have := HG.out.2.2.2.1; omega) (fun h => zs_adds (HZ.out _ hb) h) rfl _ _ rfl rfl rfl ?_; intro r3 c3 w3 hr3 hc3 hb3; obtain ⟨g3, rfl, hg3, _⟩ := hr3.some_of (by have := HG.out.2.1; omega); have hSg : ¬ S g3 := (fun h => by have := he.lt _ h; omega); have he3 := he.keep hb3; have hbA := hb.trans (hb3.mono hb.size); clear hb3 he))
      | (go_at_call 14; go_loud (refine (HWR.out S p _ g3 c3 _ he3 hc3 hr3 hSg).mono ?_; rintro e w4 ⟨rfl, S4, he4, hw4⟩; have hbB := hbA.trans (hw4.below hS hbA.size); clear he3 hw4 hr3))
      | (go_at_call 13; go_loud (refine (pgood_any a n cap zs _ (HZ.out _ hbB) HG.out.2.2.1).mono ?_; rw [HG.out.1]; rintro e w5 ⟨rfl, rfl⟩))
      | (go_at_call 23; go_loud (refine (HD.out p S4 _ he4).mono ?_; rintro e w6 ⟨rfl, k6, rfl⟩; have hbC := below_drewN hbB k6)))
    go_ret
    exact ⟨rfl, hbC⟩

theorem pulseBack.gen (a : Option Addr) (n cap : Nat) (zs : List Int) (w : World) (hz : Zs w a n zs) (hcap : n ≤ cap) (hn : n ≤ 9223372036854775807) :
    Calls Try.prog 5 #[.slice a n cap] w fun e w' => e = .returned (.bool true) ∧ Below w.heap.size w w' := by
  cases hg : goodL zs with
  | true => exact pulseBack.good a n cap zs w hz hcap hg
  | false => exact pulseBack.bad a n cap zs w hz hcap hn hg

theorem row_cap {k : IntKind} {w : World} {a : Option Addr} {len cap : Nat} {z : List Int} (h : IsRow k w a len cap z) : len ≤ cap ∧ len ≤ 9223372036854775807 := by
  rcases h with ⟨_, rfl, rfl, _⟩ | ⟨x, _, hl, hm, _⟩
  · decide
  · unfold maxLen at hm; omega

theorem pulseBack.walk (a0 : Option Addr) (n0 cap0 : Nat) (z0 : List Int) (w : World) (h0 : IsRow .i64 w a0 n0 cap0 z0) :
    Calls Try.prog 5 #[.slice a0 n0 cap0] w fun e w' => e = .returned (.bool true) ∧ Below w.heap.size w w' :=
  pulseBack.gen a0 n0 cap0 _ w (Zs.of_isRow h0).1 (row_cap h0).1 (row_cap h0).2

end Go.Proofs.Ytdbgcbbfnjoebaa
