/- The document's own pulses: blocks, one behind the other. -/
import Derived.Test.YtdbgcbbfnjoebaaMF
import Derived.Test.YtdbgcbbfnjoebaaME
import Derived.Deep.AppendLies
namespace Go.Proofs.Ytdbgcbbfnjoebaa
open Go.RowKit

theorem Went.belowB {p : Nat} {a b c : World} (h : Went (fun k => k = p) a (fun k => k = p) b) (k : Below a.heap.size b c) : Went (fun k => k = p) a (fun k => k = p) c :=
  ⟨k.os.trans h.os, k.tape.trans h.tape, k.output.trans h.output, Nat.le_trans h.size k.size, fun i hi hn => (k.block i hi).trans (h.block i hi hn), fun _ h => .inl h⟩

/-- 'append(l, b...)', b of m numbers, l of the call's own. -/
theorem wpList_append_seg {ops : Array Oper} {rest : List Oper} {o : Oper} {a : Act} {Q : Exit → Act → World → Prop} {w : World} (B n : Nat) (v : Value) (zs : List Int) (hzn : zs.length = n) (hown : w.ownsRow B 2 1 v n (zs.map (Value.int .i64))) (hn : n ≤ 1000) (hB : B ≤ w.heap.size)
    (g m c : Nat) (ys : List Int) (hm : ys.length = m) (hm0 : 0 < m) (hm1 : m ≤ 1000) (hc : ∀ i, i < m → w.cell? ⟨g, i, none⟩ = some (.int .i64 (ys[i]?.getD 0)))
    (hgd : o.guard = none) (s x : Operand) (ho : o.op = .call { callee := .builtin .append, args := #[s, x], argTypes := #[23, 23] }) (hs : a.eval s = v) (hx : a.eval x = .slice (some ⟨g, 0, none⟩) m c)
    (h : ∀ g' c' w', w'.ownsRow B 2 1 (.slice (some ⟨g', 0, none⟩) (n + m) c') (n + m) ((zs ++ ys).map (Value.int .i64)) → Below B w w' → wpList Try.prog ops Q rest (a.put o.dst (.slice (some ⟨g', 0, none⟩) (n + m) c')) w') :
    wpList Try.prog ops Q (o :: rest) a w := by
  obtain ⟨i, hi, hzz⟩ := Option.map_eq_some_iff.1 info_int64
  simp only [Prod.mk.injEq] at hzz
  obtain ⟨hz, hsz, hby⟩ := hzz
  refine wpList_append_lies _ hgd s x 23 ho B 2 i (.int .i64 0) 1 8 Try.underlying23 hi hz hsz hby rfl (by decide) v n _ hs hown ⟨g, 0, none⟩ m c (ys.map (Value.int .i64)) hx (by rw [List.length_map, hm, Nat.mul_one])
    (by
      intro j u hj
      rcases Nat.lt_or_ge j ys.length with h1 | h1
      · have h2 := hc j (by omega)
        rw [List.getElem?_map, List.getElem?_eq_getElem h1] at hj
        rw [List.getElem?_eq_getElem h1] at h2
        simp only [Option.map_some, Option.some.injEq, Option.getD_some] at hj h2
        subst hj
        rw [Addr.add_lit, Nat.zero_add]
        exact h2
      · rw [List.getElem?_eq_none (by simpa using h1)] at hj; cases hj)
    (by intro u hu; obtain ⟨q, _, rfl⟩ := List.mem_map.1 hu; rfl) hm0 (by unfold maxLen; omega) (by omega) hB _ rfl ?_
  intro g' c' w' h4 h5 _ _
  refine h g' c' w' (by rw [List.map_append]; exact h4) ((Below.refl B w).grown h5 hB fun k hk => ?_)
  exact (ownBlock_row hown hk).1

theorem ricdf5_any (w : World) : Calls Try.prog 40 #[.int .i64 5] w fun e w' => ∃ a cap, e = .returned (.slice a 17 cap) ∧ RowAt w' a 17 (icdfL 5) ∧ (∀ b off, a = some ⟨b, off, none⟩ → w.heap.size ≤ b) ∧ Below w.heap.size w w' := by
  refine (ricdf_any 5 w).mono ?_
  rintro e w' ⟨a, cap, rfl, hn, hb⟩
  refine ⟨a, cap, by rw [good5.2], ?_, ?_, hb⟩
  · have := RowAt.of_new hn
    rw [good5.2] at this
    exact this
  · rintro b off rfl
    obtain ⟨b', e, h1, _⟩ := hn.some_of (by rw [good5.2]; decide)
    cases e
    exact h1

theorem seg1 (X : List Int) : ([] : List Int) ++ (X ++ []) = X := by rw [List.append_nil, List.nil_append]

/-- What a block is read to, in steps. -/
structure BlockAt (bs : List Nat) (s : St) (k : Int) (s1 : St) (V : List Int) (s2 : St) (L : List Int) (s3 : St) : Prop where
  sym : rdSym bs (icdfL 5) s = (k, s1)
  shr : shareV bs 4 k s1 = (V, s2)
  sgn : signV bs V s2 = (L, s3)
  all : blockV bs s = (L, s3)
  inv1 : Inv s1
  inv2 : Inv s2
  cnt1 : s1.cnt ≤ s.cnt + 60
  cnt2 : s2.cnt ≤ s.cnt + 1200
  k0 : 0 ≤ k
  k16 : k ≤ 16
  lenV : V.length = 16
  lenL : L.length = 16
  few : ∀ j, j < 16 → 0 ≤ V[j]?.getD 0 ∧ V[j]?.getD 0 ≤ 16

theorem blockAt {bs : List Nat} (hb : Bytes bs) {s : St} (hi : Inv s) : ∃ k s1 V s2 L s3, BlockAt bs s k s1 V s2 L s3 := by
  obtain ⟨k, s1, e1⟩ : ∃ k s1, rdSym bs (icdfL 5) s = (k, s1) := pair_is _
  obtain ⟨V, s2, e2⟩ : ∃ V s2, shareV bs 4 k s1 = (V, s2) := pair_is _
  obtain ⟨L, s3, e3⟩ : ∃ L s3, signV bs V s2 = (L, s3) := pair_is _
  have eB : blockV bs s = (L, s3) := by
    unfold blockV
    rw [e1]
    show signV bs (shareV bs 4 k s1).1 (shareV bs 4 k s1).2 = _
    rw [e2]
    exact e3
  obtain ⟨r1, r2, r3, _⟩ := rdSym_in hb good5.1 hi
  have c1 := rdSym_cnt bs (icdfL 5) s
  rw [e1] at r1 r2 r3 c1
  rw [good5.2] at r2
  have c1 : s1.cnt ≤ s.cnt + 60 := c1
  have r1 : 0 ≤ k := r1
  have r2 : k < 17 := r2
  obtain ⟨a1, a2, a3, a4, _⟩ := shareV_in hb 4 k s1 r1 r3
  have c2 := shareV_cnt bs 4 k s1
  rw [e2] at a1 a2 a3 a4 c2
  have c2 : s2.cnt + 60 ≤ s1.cnt + 60 * 16 := c2
  have a1 : V.length = 16 := a1
  have a2 : ∀ x ∈ V, 0 ≤ x := a2
  have a3 : sumP V = k := a3
  obtain ⟨b1, _, _, _⟩ := signV_in (b := bs) V s2 a2 a4
  rw [e3, a1] at b1
  have b1 : L.length = 16 := b1
  refine ⟨k, s1, V, s2, L, s3, e1, e2, e3, eB, r3, a4, c1, by omega, r1, by omega, a1, b1, fun j hj => ?_⟩
  have h1 := a2 _ (at_mem (l := V) (i := j) (by omega))
  have h2 : absI (V[j]?.getD 0) ≤ pulsesN V := pulsesN_mem (at_mem (l := V) (i := j) (by omega))
  have h3 : pulsesN V = k := by
    rw [← a3]
    unfold pulsesN
    congr 1
    exact (List.map_congr_left fun x hx => by have := a2 x hx; unfold absI; rw [if_neg (by omega)]; rfl).trans (List.map_id V)
  unfold absI at h2
  rw [if_neg (by omega)] at h2
  omega

theorem Rr.off {p gb g : Nat} {bs : List Nat} {s : St} {w : World} (h : Rr p gb bs s w) (hgp : g ≠ p) (hgb : bs ≠ [] → g ≠ gb) (i : Nat) (v : Value) : Rr p gb bs s (w.setCell ⟨g, i, none⟩ v) :=
  h.of_blocks (((But.refl g w).set i v).block p fun e => hgp e.symm) (fun h0 => ((But.refl g w).set i v).block gb fun e => hgb h0 e.symm)

set_option maxRecDepth 100000 in
set_option maxHeartbeats 3200000 in
theorem rpulses_any (p gb : Nat) (bs : List Nat) (s : St) (m n : Nat) (w : World) (h : Rr p gb bs s w) (hgw : bs ≠ [] → gb < w.heap.size) (hi : Inv s) (hc : s.cnt ≤ 80000000000000) (hn : n = 16 * m) (hm1 : 1 ≤ m) (hm : m ≤ 30) :
    Calls Try.prog 19 #[.pointer (some ⟨p, 0, none⟩), .int .i64 n] w fun e w' => ∃ a cap, e = .returned (.slice a n cap) ∧ NewRow 2 w.heap.size w' a (blocksV bs m s).1 ∧ Rr p gb bs (blocksV bs m s).2 w' ∧ Went (fun k => k = p) w (fun k => k = p) w' := by
  have HH : Hid (Rr p gb bs s w ∧ Inv s ∧ s.cnt ≤ 80000000000000 ∧ n = 16 * m ∧ 1 ≤ m ∧ m ≤ 30 ∧ Bytes bs ∧ p < w.heap.size ∧ (bs ≠ [] → gb < w.heap.size)) := ⟨h, hi, hc, hn, hm1, hm, h.bytes', h.lt, hgw⟩
  have hnI : (n : Int) ≤ 480 := by omega
  have HMK : Hid (∀ W : World, (Instr.makeSlice 23 (.int .i64 16) (.int .i64 16)).run Try.prog W = .ok (.slice (some ⟨W.heap.size, 0, none⟩) 16 16) (W.alloc (.cells (madeCells #[.int .i64 0] 16) 2))) := fun W => run_make_row' (P := Try.prog) 23 2 (.int .i64 0) 8 Try.underlying23 info_int64 rfl .i64 .i64 16 (by decide) (by decide) W
  clear h hgw hi hc hn hm1 hm
  go_enter Try.func19, Try.ntmps19
  go_wp2
  go_loopw [5] (fun v W => ∃ (j o : Nat) (a : Option Addr) (cap : Nat), v = .slice a o cap ∧ j ≤ m ∧ W.ownsRow w.heap.size 2 1 (.slice a o cap) o ((blocksV bs j s).1.map (Value.int .i64)) ∧ Rr p gb bs (blocksV bs j s).2 W ∧ Went (fun k => k = p) w (fun k => k = p) W ∧ Hid (o = 16 * j)) (fun v _ => n - (match v with | .slice _ o _ => o | _ => 0))
  case atStart => exact ⟨0, 0, none, 0, rfl, Nat.zero_le _, World.ownsRow_nil w w.heap.size _ 1, HH.out.1, .refl _ _, rfl⟩
  case round =>
    obtain ⟨j, o, a, cap, rfl, hj, hown, hd, hW, HO⟩ := hrel
    by_cases hlt : j < m
    · obtain ⟨f1, f2, f3, f4, f5, f6, f7, f8, f9⟩ := HH.out
      have hO := HO.out
      obtain ⟨g1, g2, _⟩ := blocksV_in f7 j s f2
      have g3 := blocksV_cnt f7 j s f2
      have g4 := goodN_len j _ g1
      obtain ⟨k, s1, V, s2, L, s3, hB⟩ := blockAt f7 g2
      have hsn : blocksV bs (j + 1) s = ((blocksV bs j s).1 ++ L, s3) := by rw [blocksV_snoc, hB.all]
      have hs3 : (o : Int) < n := by omega
      obtain ⟨P, hP⟩ : ∃ P, (blocksV bs j s).1 = P := ⟨_, rfl⟩
      obtain ⟨t0, ht0⟩ : ∃ t, (blocksV bs j s).2 = t := ⟨_, rfl⟩
      rw [hP] at hown hsn g4
      rw [ht0] at hd hB g2 g3
      have HB : Hid (BlockAt bs t0 k s1 V s2 L s3 ∧ Inv t0 ∧ t0.cnt ≤ 80000000100000) := ⟨hB, g2, by omega⟩
      have HS : Hid (blocksV bs (j + 1) s = (P ++ L, s3) ∧ P.length = o) := ⟨hsn, by omega⟩
      have HOW : Hid (wr.ownsRow w.heap.size 2 1 (.slice a o cap) o (P.map (Value.int .i64)) ∧ w.heap.size ≤ wr.heap.size ∧ o ≤ 480) := ⟨hown, hW.size, by omega⟩
      have HG : Hid (wr.heap.size ≠ p ∧ (bs ≠ [] → wr.heap.size ≠ gb) ∧ p < wr.heap.size ∧ (bs ≠ [] → gb < wr.heap.size)) := ⟨by have := hW.size; omega, fun h0 => by have := f9 h0; have := hW.size; omega, by have := hW.size; omega, fun h0 => by have := f9 h0; have := hW.size; omega⟩
      have hmk := HMK.out
      have HR0 : Hid (NewRow 2 wr.heap.size (wr.alloc (.cells (madeCells #[.int .i64 0] 16) 2)) (some ⟨wr.heap.size, 0, none⟩) (List.replicate 16 0) ∧ Rr p gb bs t0 (wr.alloc (.cells (madeCells #[.int .i64 0] 16) 2))) :=
        ⟨NewRow.made wr 16, hd.of_blocks (Below.heap_alloc wr _ p (by have := hW.size; omega)) (fun h0 => Below.heap_alloc wr _ gb (by have := f9 h0; have := hW.size; omega))⟩
      have HSY : Hid (∀ a cap W, Rr p gb bs t0 W → RowAt W a 17 (icdfL 5) → (∀ b off, a = some ⟨b, off, none⟩ → b ≠ p) → Calls Try.prog 39 #[.pointer (some ⟨p, 0, none⟩), .slice a 17 cap] W fun e w' => e = .returned (.int .i64 k) ∧ Rr p gb bs s1 w' ∧ But p W w') := fun a cap W hW hT hne => by
        have := rsymbol_any p gb bs t0 a 17 cap (icdfL 5) W hW HB.out.2.1 (by have := HB.out.2.2; omega) hT (by omega) (fun b off hb _ => hne b off hb)
        have ef : (((symS bs (icdfL 5) t0).1 : Nat) : Int) = k := (first_is HB.out.1.sym :)
        have es : (symS bs (icdfL 5) t0).2 = s1 := (second_is HB.out.1.sym :)
        rw [ef, es] at this
        exact this
      have HSH : Hid (∀ W, Rr p gb bs s1 W → NewRow 2 wr.heap.size W (some ⟨wr.heap.size, 0, none⟩) (List.replicate 16 0) → Calls Try.prog 38 #[.pointer (some ⟨p, 0, none⟩), .slice (some ⟨wr.heap.size, 0, none⟩) 16 16, .int .i64 k] W fun e w' => e = .returned (.tuple #[]) ∧ Rr p gb bs s2 w' ∧ NewRow 2 wr.heap.size w' (some ⟨wr.heap.size, 0, none⟩) V ∧ Went (PG p wr.heap.size) W (PG p wr.heap.size) w') := fun W h1 h2 => by
        have := rshare_any p gb wr.heap.size wr.heap.size bs HG.out.1 HG.out.2.1 4 s1 k [] [] 16 0 16 W h1 HB.out.1.inv1 (by have := HB.out.1.cnt1; have := HB.out.2.2; omega) rfl (by omega) rfl (by omega) HB.out.1.k0 HB.out.1.k16 (by rw [seg1]; exact h2)
        rw [seg1, HB.out.1.shr] at this
        exact this
      clear f1 f2 f3 f4 f5 f6 f7 f8 f9 hO g1 g2 g3 g4 hB hsn hP ht0 hown hd
      go_wp2_with (first
        | (go_at_call 40; go_loud (refine (ricdf5_any _).mono ?_; rintro e w1 ⟨ai, ci, rfl, ht, hta, hb1⟩; have hd1 := HR0.out.2.keep hb1; have hr1 := HR0.out.1.keep hb1))
        | (go_at_call 39; go_loud (refine (HSY.out ai ci _ hd1 ht (fun b off hb => by have := hta b off hb; have h2 := HG.out.2.2.1; simp at this; omega)).mono ?_; rintro e w2 ⟨rfl, hd2, hb2⟩; have hr2 := hr1.same (w' := w2) (fun b hb => hb2.block b (fun e => HG.out.1 (by cases hb; exact e)))))
        | (go_at_call 38; go_loud (refine (HSH.out _ hd2 hr2).mono ?_; rintro e w3 ⟨rfl, hd3, hr3, hw3⟩)))
      have hW3 : Went (PG p wr.heap.size) wr (PG p wr.heap.size) w3 := ((((Went.refl _ wr).alloc _).keep hb1).trans (went_but hb2)).trans hw3
      clear hd1 hr1 hd2 hr2 hb2 hw3 ht hta hb1
      obtain ⟨FR, hFR⟩ : ∃ FR : World → Prop, FR = fun W => Went (PG p wr.heap.size) wr (PG p wr.heap.size) W := ⟨_, rfl⟩
      have HFR : Hid (FR w3 ∧ (∀ W W', FR W → Went (PG p wr.heap.size) W (PG p wr.heap.size) W' → FR W') ∧ (∀ W, FR W → W.ownsRow w.heap.size 2 1 (.slice a o cap) o (P.map (Value.int .i64)) ∧ Went (fun k => k = p) w (fun k => k = p) W)) := by
        rw [hFR]
        refine ⟨hW3, fun W W' h1 h2 => h1.trans h2, fun W h1 => ⟨row_of_block HOW.out.1 fun k hk => ?_, hW.fresh h1 hW.size⟩⟩
        obtain ⟨e1, e2⟩ := ownBlock_row HOW.out.1 hk
        refine h1.block k e2 fun hs => ?_
        have := HH.out.2.2.2.2.2.2.2.1
        rcases hs with h3 | h3 <;> omega
      have HGE : Hid (w.heap.size ≤ wr.heap.size) := hW.size
      clear hFR hW3 HOW HR0 HSY HSH hW
      generalize wr.heap.size = gB at *
      go_loopw [7] (fun x W => ∃ (i : Nat) (t : St), i ≤ 16 ∧ x = .int .i64 i ∧ Rr p gb bs t W ∧ NewRow 2 gB W (some ⟨gB, 0, none⟩) (mixL L V i) ∧ FR W ∧ Hid (Inv t ∧ t.cnt ≤ 80000000200000 + 60 * i ∧ signV bs (V.drop i) t = (L.drop i, s3))) (fun x _ => 16 - (intOf x).toNat)
      case atStart => exact ⟨0, s2, by omega, rfl, hd3, hr3, HFR.out.1, HB.out.1.inv2, by have := HB.out.1.cnt2; have := HB.out.2.2; omega, HB.out.1.sgn⟩
      case round =>
        clear hd3 hr3
        obtain ⟨i, t, hi, rfl, hd, hr, hF, HT⟩ := hrel
        have q1 := HB.out.1.lenV
        have q2 := HB.out.1.lenL
        by_cases hli : i < 16
        · have q6 := HB.out.1.few i hli
          have hml : (mixL L V i).length = 16 := mixL_len q2 q1 (by omega)
          have hcell := hr.cellAt (i := i) (by omega)
          rw [mixL_at q2 q1 hli] at hcell
          have hfz := hr.frozenAt (by omega) i
          obtain ⟨v, hv⟩ : ∃ v, V[i]?.getD 0 = v := ⟨_, rfl⟩
          obtain ⟨y, hy⟩ : ∃ y, L[i]?.getD 0 = y := ⟨_, rfl⟩
          rw [hv] at hcell q6
          have hs := HT.out.2.2
          rw [drop_at (l := V) (by omega), drop_at (l := L) (by omega), hv, hy] at hs
          have HST : Hid (∀ W, NewRow 2 gB W (some ⟨gB, 0, none⟩) (mixL L V i) → NewRow 2 gB (W.setCell ⟨gB, i, none⟩ (.int .i64 y)) (some ⟨gB, 0, none⟩) (mixL L V (i + 1))) := fun W hW => by
            rw [mixL_step q2 q1 hli, hy]
            exact hW.set i y
          have HSM : Hid (y = v → mixL L V (i + 1) = mixL L V i) := fun e => by
            rw [mixL_step q2 q1 hli, hy, e, ← hv, ← mixL_at q2 q1 hli, set_own (by omega)]
          have HRW : Hid (NewRow 2 gB wr (some ⟨gB, 0, none⟩) (mixL L V i)) := hr
          have HVB : Hid (0 ≤ v ∧ v ≤ 16) := q6
          clear hv hy hml q1 q2 q6 hr
          by_cases hpos : 0 < v
          · obtain ⟨z, t1, et⟩ : ∃ z t1, rdBits bs 1 t = (z, t1) := pair_is _
            rw [signV, if_pos hpos, et] at hs
            have hs : ((if z = 1 then -v else v) :: (signV bs (V.drop (i + 1)) t1).1, (signV bs (V.drop (i + 1)) t1).2) = (y :: L.drop (i + 1), s3) := hs
            obtain ⟨hy1, hy2⟩ := cons_pair hs
            obtain ⟨_, i2, _⟩ := rdBits_in bs (n := 1) HT.out.1
            have i3 := rdBits_cnt bs 1 t
            rw [et] at i2 i3
            have HN : Hid (Inv t1 ∧ t1.cnt ≤ 80000000200000 + 60 * (i + 1 : Nat) ∧ signV bs (V.drop (i + 1)) t1 = (L.drop (i + 1), s3)) := ⟨i2, by have := HT.out.2.1; have i3 : t1.cnt ≤ t.cnt + 60 := i3; omega, hy2⟩
            have HBI : Hid (∀ W, Rr p gb bs t W → Calls Try.prog 41 #[.pointer (some ⟨p, 0, none⟩), .int .i64 1] W fun e w' => e = .returned (.int .i64 z) ∧ Rr p gb bs t1 w' ∧ But p W w') := fun W hW => by
              have := rbits_any p gb bs t 1 W hW HT.out.1 (by have := HT.out.2.1; omega)
              have ef : (((bitsS bs 1 t).1 : Nat) : Int) = z := (first_is et :)
              have es : (bitsS bs 1 t).2 = t1 := (second_is et :)
              rw [ef, es] at this
              exact this
            clear hs hy2 i2 i3 et
            by_cases hz : z = 1
            · have hzb : (z == 1) = true := beq_iff_eq.2 hz
              rw [if_pos hz] at hy1
              subst hy1
              have hwv : wrap64 (-v) = -v := wrap_n (by have := HVB.out; omega) (by have := HVB.out; omega)
              clear hz HSM
              go_wp2_with (go_at_call 41; go_loud (refine (HBI.out _ hd).mono ?_; rintro e w4 ⟨rfl, hd4, hb4⟩; have hcell4 := (hb4.cell (a := ⟨gB, i, none⟩) HG.out.1).trans hcell; have hfz4 := (hb4.frozen (a := ⟨gB, i, none⟩) HG.out.1).trans hfz; have hr4 := HRW.out.same (w' := w4) (fun b hb => hb4.block b (fun e => HG.out.1 (by cases hb; exact e)))))
              go_roundw
              case rel => exact ⟨i + 1, t1, by omega, by go_num, hd4.off HG.out.1 HG.out.2.1 _ _, HST.out _ hr4, HFR.out.2.1 _ _ hF ((went_but hb4).trans (went_set _ _ _)), HN.out⟩
              case measure => simp [intOf]; omega
            · have hzb : (z == 1) = false := beq_eq_false_iff_ne.2 hz
              rw [if_neg hz] at hy1
              have HSM2 : Hid (mixL L V (i + 1) = mixL L V i) := HSM.out hy1.symm
              clear hz HSM hy1 HST
              go_wp2_with (go_at_call 41; go_loud (refine (HBI.out _ hd).mono ?_; rintro e w4 ⟨rfl, hd4, hb4⟩; have hr4 := HRW.out.same (w' := w4) (fun b hb => hb4.block b (fun e => HG.out.1 (by cases hb; exact e)))))
              go_roundw
              case rel => exact ⟨i + 1, t1, by omega, by go_num, hd4, by rw [HSM2.out]; exact hr4, HFR.out.2.1 _ _ hF (went_but hb4), HN.out⟩
              case measure => simp [intOf]; omega
          · obtain rfl : v = 0 := by have := HVB.out; omega
            rw [signV, if_neg (by decide)] at hs
            obtain ⟨hy1, hy2⟩ := cons_pair hs
            have HSM2 : Hid (mixL L V (i + 1) = mixL L V i) := HSM.out hy1.symm
            have HN : Hid (Inv t ∧ t.cnt ≤ 80000000200000 + 60 * (i + 1 : Nat) ∧ signV bs (V.drop (i + 1)) t = (L.drop (i + 1), s3)) := ⟨HT.out.1, by have := HT.out.2.1; omega, hy2⟩
            clear hs hy1 hy2 HSM HST hpos
            go_wp2
            go_roundw
            case rel => exact ⟨i + 1, t, by omega, by go_num, hd, by rw [HSM2.out]; exact HRW.out, hF, HN.out⟩
            case measure => simp [intOf]; omega
        · obtain rfl : i = 16 := by omega
          have hs := HT.out.2.2
          rw [List.drop_eq_nil_of_le (by omega), List.drop_eq_nil_of_le (by omega)] at hs
          have hs2 : t = s3 := (second_is hs :)
          rw [mixL_all q2 q1] at hr
          subst hs2
          obtain ⟨o1, o2⟩ := HFR.out.2.2 _ hF
          have HOW : Hid (wr.ownsRow w.heap.size 2 1 (.slice a o cap) o (P.map (Value.int .i64)) ∧ Went (fun k => k = p) w (fun k => k = p) wr ∧ w.heap.size ≤ wr.heap.size ∧ P.length = o ∧ o ≤ 1000 ∧ L.length = 16) := ⟨o1, o2, o2.size, HS.out.2, by have := HO.out; have := HH.out.2.2.2.2.2.1; omega, q2⟩
          have HCC : Hid (∀ i, i < 16 → wr.cell? ⟨gB, i, none⟩ = some (.int .i64 (L[i]?.getD 0))) := fun i hi => hr.cellAt (by omega)
          have HD : Hid (Rr p gb bs t wr) := hd
          clear hs q1 q2 hr o1 o2 hd HT hF
          go_wp2_with (at_builtin; go_loud (refine wpList_append_seg w.heap.size o (.slice a o cap) P HOW.out.2.2.2.1 HOW.out.1 HOW.out.2.2.2.2.1 HOW.out.2.2.1 gB 16 16 L HOW.out.2.2.2.2.2 (by decide) (by decide) HCC.out rfl _ _ rfl rfl rfl ?_; intro g9 c9 w9 ho9 hb9))
          go_roundw
          case rel =>
            refine ⟨j + 1, o + 16, _, _, rfl, by omega, ?_, ?_, HOW.out.2.1.belowB hb9, by have := HO.out; show _ = _; omega⟩
            · rw [HS.out.1]; exact ho9
            · rw [HS.out.1]; exact HD.out.of_blocks (hb9.block p HH.out.2.2.2.2.2.2.2.1) (fun h0 => hb9.block gb (HH.out.2.2.2.2.2.2.2.2 h0))
          case measure => simp; omega
    · obtain rfl : j = m := by omega
      have hs1 : ¬ ((o : Int) < n) := by have := HO.out; have := HH.out.2.2.2.1; omega
      obtain ⟨hl, a', cap', ev, hnew⟩ := NewRow.of_owned hown
      cases ev
      obtain rfl : o = n := by have := HO.out; have := HH.out.2.2.2.1; omega
      clear hown
      go_wp2
      go_ret
      first | exact ⟨_, _, rfl, hnew, hd, hW⟩ | exact ⟨_, rfl, hnew, hd, hW⟩ | exact ⟨_, ⟨_, rfl⟩, hnew, hd, hW⟩

end Go.Proofs.Ytdbgcbbfnjoebaa
