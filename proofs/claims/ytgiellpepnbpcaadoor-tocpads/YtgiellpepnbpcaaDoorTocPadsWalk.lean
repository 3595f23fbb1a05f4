/- The law of padding answers true. -/
import Derived.Test.YtgiellpepnbpcaaDoorTocV
namespace Go.Proofs.YtgiellpepnbpcaaDoor
open Go.RowKit

/-- A byte of one's own is written. -/
theorem Ob.set {B g : Nat} {w : World} {n c : Nat} {bs : List Nat} (h : w.ownsRow B 5 1 (.slice (some ⟨g, 0, none⟩) n c) n (bvals bs)) {i : Nat} (hi : i < n) (x : Nat) : (w.setCell ⟨g, i, none⟩ (.int .u8 (x : Nat))).ownsRow B 5 1 (.slice (some ⟨g, 0, none⟩) n c) n (bvals (bs.set i x)) := by
  obtain ⟨hl, ⟨hv, _⟩ | ⟨g', cap, cur, hv, hB, hh, hnc, hcm, hcs, ht⟩⟩ := h
  · cases hv
  · cases hv
    have e : bvals (bs.set i x) = (bvals bs).set i (.int .u8 (x : Nat)) := by unfold bvals; rw [List.map_set]
    refine ⟨by rw [e, List.length_set]; exact hl, .inr ⟨g, c, cur.setIfInBounds i (.int .u8 (x : Nat)), rfl, hB, four_set hh i _, hnc, hcm, by simpa using hcs, ?_⟩⟩
    rw [e, ← ht, Nat.mul_one]
    apply List.ext_getElem?
    intro j
    by_cases hj : j < n
    · rw [List.getElem?_take_of_lt hj, List.getElem?_set, Array.getElem?_toList, Array.getElem?_setIfInBounds]
      by_cases hij : i = j
      · subst hij
        rw [if_pos rfl, if_pos rfl, List.length_take, Array.length_toList]
        have hlt : i < cur.size := by omega
        rw [if_pos hlt, if_pos (by omega)]
      · rw [if_neg hij, if_neg hij, List.getElem?_take_of_lt hj, Array.getElem?_toList]
    · rw [List.getElem?_eq_none (by rw [List.length_take]; omega), List.getElem?_eq_none (by rw [List.length_set, List.length_take]; omega)]

theorem Ob.at_ {B g : Nat} {w : World} {n c : Nat} {bs : List Nat} (h : w.ownsRow B 5 1 (.slice (some ⟨g, 0, none⟩) n c) n (bvals bs)) {i : Nat} (hi : i < n) : (∃ v, w.cell? ⟨g, i, none⟩ = some v) ∧ w.frozen? ⟨g, i, none⟩ = false ∧ B ≤ g ∧ g < w.heap.size := by
  obtain ⟨hl, ⟨hv, _⟩ | ⟨g', cap, cur, hv, hB, hh, hnc, hcm, hcs, ht⟩⟩ := h
  · cases hv
  · cases hv
    have hlt : i < cur.size := by omega
    refine ⟨⟨cur[i]'hlt, by simp [World.cell?, hh, hlt]⟩, by simp [World.frozen?, hh], hB, (Array.getElem?_eq_some_iff.1 hh).1⟩

theorem set_pad (q : List Nat) (j k x : Nat) : (q ++ (List.replicate j x ++ List.replicate (k + 1) 0)).set (q.length + j) x = q ++ (List.replicate (j + 1) x ++ List.replicate k 0) := by
  rw [List.set_append_right _ _ (by omega), show q.length + j - q.length = j by omega, List.set_append_right _ _ (by simp), List.length_replicate, Nat.sub_self, List.replicate_succ, List.set_cons_zero, List.replicate_succ' (n := j)]
  simp

theorem packN_pos {p : Pk} (h : GoodP p) : 0 < (packN p).length := by
  rw [packN_pieces h]; unfold frontN; simp

theorem own_at0 {w : World} {B : Nat} {e : TypeId} {z : Nat} {a : Option Addr} {n c : Nat} {xs : List Value} (h : w.ownsRow B e z (.slice a n c) n xs) (h0 : 0 < n) : ∃ g, a = some ⟨g, 0, none⟩ ∧ B ≤ g ∧ g < w.heap.size := by
  rcases h.2 with ⟨_, hn⟩ | ⟨g, cap, _, hv, hB, hh, _⟩
  · omega
  · cases hv
    exact ⟨g, rfl, hB, (Array.getElem?_eq_some_iff.1 hh).1⟩

theorem good_zero {k ch pad : Nat} {fs : List (List Nat)} (h : GoodP ⟨k, ch, fs, pad⟩) : GoodP ⟨k, ch, fs, 0⟩ := ⟨h.config, h.ch, h.some_, h.time, h.short, Nat.zero_le _⟩

theorem pads_bad (c ch pad : Int) (a : Option Addr) (len cap : Nat) (fs : List (List Nat)) (x : Int) (w : World) (hF : FramesAt w 0 a fs) (hn : fs.length = len) (hs : len ≤ 9223372036854775807) (hg : ¬ goodI c ch pad fs) (hc : CfgAt w) :
    Calls Tryd.prog 8 #[.agg #[.int .i64 c, .int .i64 ch, .slice a len cap, .int .i64 pad], .int .u8 x] w fun e w' => e = .returned (.bool true) ∧ Below w.heap.size w w' := by
  have HC : Hid (CfgAt w) := hc
  have HF : Hid (FramesAt w 0 a fs) := hF
  have HN : Hid (fs.length = len) := hn
  have HG : Hid (¬ goodI c ch pad fs) := hg
  clear hc hF hn hg
  go_enter Tryd.func8, Tryd.ntmps8
  go_wp2_with (first
    | (go_at_call 9; go_loud (refine (awake_any _ (HC.out.keep ((Below.refl _ _).alloc (Nat.le_refl _) _))).mono ?_; rintro e w1 ⟨rfl, hb1⟩; have hR := (four_new w (.int .i64 c) (.int .i64 ch) (.slice a len cap) (.int .i64 pad) 25).keep hb1; obtain ⟨p0, p1, p2, p3⟩ := hR.cells; obtain ⟨s0, s1, s2, s3⟩ := hR.cellsA; have hB := boxed hb1; have hz : w.heap.size < w1.heap.size := hR.lt; clear hb1))
    | (go_at_call 14; go_loud (have hB4 := hB.alloc hB.size (.cells #[.int .i64 c, .int .i64 ch, .slice a len cap, .int .i64 0] 25); refine (good_any c ch pad a len cap fs 0 _ (HC.out.keep hB4) (HF.out.keep hB4) HN.out hs).mono ?_; rintro e w2 ⟨⟨bb, rfl, hbb⟩, hb2⟩; obtain rfl : bb = false := (by cases bb with | false => rfl | true => exact absurd (hbb.1 rfl) HG.out); replace hB := hB4.trans (hb2.mono hB4.size); clear hbb hb2 hB4)))
  go_ret
  exact ⟨rfl, hB⟩

theorem Four.frozenA {w : World} {g : Nat} {t : TypeId} {v0 v1 v2 v3 : Value} (h : Four w g t v0 v1 v2 v3) (i : Nat) (o : Obj) : (w.alloc o).frozen? ⟨g, i, none⟩ = false := by
  have h2 : (w.alloc o).heap[g]? = some (.cells #[v0, v1, v2, v3] t (0, 0)) := h.alloc o
  simp [World.frozen?, h2]

theorem Four.set3 {w : World} {g : Nat} {t : TypeId} {v0 v1 v2 v3 : Value} (h : Four w g t v0 v1 v2 v3) (u : Value) : Four (w.setCell ⟨g, 3, none⟩ u) g t v0 v1 v2 u := four_set h 3 u

set_option maxHeartbeats 4000000 in
theorem pads_good (k ch pad : Nat) (a : Option Addr) (len cap : Nat) (fs : List (List Nat)) (x : Nat) (w : World) (hF : FramesAt w 0 a fs) (hn : fs.length = len) (hcap : len ≤ cap) (hx : x < 256) (hg : GoodP ⟨k, ch, fs, pad⟩) (hsm : ∀ f ∈ fs, ∀ y ∈ f, y < 256) (hc : CfgAt w) :
    Calls Tryd.prog 8 #[.agg #[.int .i64 (k : Nat), .int .i64 (ch : Nat), .slice a len cap, .int .i64 (pad : Nat)], .int .u8 (x : Nat)] w fun e w' => e = .returned (.bool true) ∧ Below w.heap.size w w' := by
  have hlen : len ≤ 12 := by have := hg.few; simp only at this; omega
  have hpad : pad ≤ 1000 := hg.pad
  have hg0 := good_zero hg
  obtain ⟨q, hq1, hq2⟩ := packT_end (p := ⟨k, ch, fs, pad⟩) (t := List.replicate pad 0) (by simp)
  obtain ⟨d, HD⟩ : ∃ d, Hid (q.length = d) := ⟨_, rfl⟩
  have HQ : Hid (packN ⟨k, ch, fs, pad⟩ = q ++ List.replicate pad 0) := hq1
  have HQ2 : Hid (parseN (q ++ List.replicate pad x) = some ⟨k, ch, fs, pad⟩) := by
    show _ = _
    rw [← hq2 (List.replicate pad x) (by simp)]
    exact parse_packT hg (by simp)
  have HQ3 : Hid (parseN (packN ⟨k, ch, fs, 0⟩) = some ⟨k, ch, fs, 0⟩) := parse_pack hg0
  have hfew := packN_few hg
  have hsmall := packN_small hg hsm
  rw [HQ.out] at hfew hsmall
  have HPOS : Hid (0 < d + pad) := by
    have h1 := packN_pos hg
    rw [HQ.out, List.length_append, HD.out, List.length_replicate] at h1
    exact h1
  have hd5 : d ≤ 100000 := by have := HD.out; rw [List.length_append] at hfew; omega
  have HSQ : Hid (∀ y ∈ q ++ List.replicate pad x, y < 256) := fun y hy => by
    rcases List.mem_append.1 hy with h | h
    · exact hsmall y (List.mem_append_left _ h)
    · have := List.eq_of_mem_replicate h; omega
  have HS0 : Hid ((∀ y ∈ packN ⟨k, ch, fs, 0⟩, y < 256) ∧ (packN ⟨k, ch, fs, 0⟩).length ≤ 100000) := ⟨packN_small hg0 hsm, packN_few hg0⟩
  have HG : Hid (goodI k ch pad fs) := goodI_of hg
  have HG0 : Hid (goodI k ch ((0 : Nat) : Int) fs) := goodI_of hg0
  have HGP : Hid (GoodP ⟨k, ch, fs, pad⟩) := hg
  have HGP0 : Hid (GoodP ⟨k, ch, fs, 0⟩) := hg0
  have HC : Hid (CfgAt w) := hc
  have HF : Hid (FramesAt w 0 a fs) := hF
  have HN : Hid (fs.length = len) := hn
  have bx : (0 : Int) ≤ x := by omega
  have bx2 : x ≤ 255 := by omega
  clear hc hF hn hg hg0 hq1 hq2 hfew hsmall hsm hx
  have y1 : Hid True := trivial
  have y2 : Hid True := trivial
  go_enter Tryd.func8, Tryd.ntmps8
  go_wp2_with (first
    | (go_at_call 9; go_loud (refine (awake_any _ (HC.out.keep ((Below.refl _ _).alloc (Nat.le_refl _) _))).mono ?_; rintro e w1 ⟨rfl, hb1⟩; have hR := (four_new w (.int .i64 (k : Nat)) (.int .i64 (ch : Nat)) (.slice a len cap) (.int .i64 (pad : Nat)) 25).keep hb1; obtain ⟨p0, p1, p2, p3⟩ := hR.cells; obtain ⟨s0, s1, s2, s3⟩ := hR.cellsA; have hB := boxed hb1; have hz : w.heap.size < w1.heap.size := hR.lt; clear hb1))
    | (go_at_call 14; clear y1; go_loud (have hB4 := hB.alloc hB.size (.cells #[.int .i64 (k : Nat), .int .i64 (ch : Nat), .slice a len cap, .int .i64 0] 25); refine (good_any k ch pad a len cap fs 0 _ (HC.out.keep hB4) (HF.out.keep hB4) HN.out (by omega)).mono ?_; rintro e w2 ⟨⟨bb, rfl, hbb⟩, hb2⟩; obtain rfl : bb = true := hbb.2 HG.out; have hQ := (four_new w1 (.int .i64 (k : Nat)) (.int .i64 (ch : Nat)) (.slice a len cap) (.int .i64 0) 25).keep hb2; replace hR := (hR.alloc _).keep hb2; obtain ⟨p4, p5, p6, p7⟩ := hR.cells; obtain ⟨q0, q1, q2, q3⟩ := hQ.cells; replace hB := hB4.trans (hb2.mono hB4.size); clear hbb hb2 hB4))
    | (go_at_call 14; go_loud (refine (good_any k ch ((0 : Nat) : Int) a len cap fs 0 _ (HC.out.keep hB) (HF.out.keep hB) HN.out (by omega)).mono ?_; rintro e w3 ⟨⟨bb, rfl, hbb⟩, hb3⟩; obtain rfl : bb = true := hbb.2 HG0.out; replace hQ := hQ.keep hb3; replace hR := hR.keep hb3; obtain ⟨p8, p9, p10, p11⟩ := hR.cells; obtain ⟨q4, q5, q6, q7⟩ := hQ.cells; replace hB := hB.trans (hb3.mono hB.size); clear hbb hb3))
    | (go_at_call 13; clear y2; go_loud (refine (pack_good k ch pad a len cap fs 0 _ (HC.out.keep hB) (HF.out.keep hB) HN.out hcap HGP.out).mono ?_; rintro e w4 ⟨⟨a4, m4, c4, rfl, ho4⟩, hb4⟩; rw [HQ.out] at ho4; have hm4 : m4 = d + pad := (by rw [owned_len ho4, List.length_append, HD.out, List.length_replicate]); subst hm4; have hlt3 := hR.lt; have HO4 : Hid (w4.ownsRow w3.heap.size 5 1 (.slice a4 (d + pad) c4) (d + pad) (bvals (q ++ List.replicate pad 0)) ∧ w.heap.size < w3.heap.size) := ⟨ho4, hlt3⟩; replace hQ := hQ.keep hb4; replace hR := hR.keep hb4; obtain ⟨q8, q9, q10, q11⟩ := hQ.cells; replace hB := hB.trans (hb4.mono hB.size); clear hb4 ho4 hlt3))
    | (go_at_call 13; go_loud (refine (pack_good k ch 0 a len cap fs 0 _ (HC.out.keep hB) (HF.out.keep hB) HN.out hcap HGP0.out).mono ?_; rintro e w5 ⟨⟨a5, m5, c5, rfl, ho5⟩, hb5⟩; have HO5 : Hid (w5.ownsRow w4.heap.size 5 1 (.slice a5 m5 c5) m5 (bvals (packN ⟨k, ch, fs, 0⟩))) := ho5; have HO45 : Hid (w5.ownsRow w3.heap.size 5 1 (.slice a4 (d + pad) c4) (d + pad) (bvals (q ++ List.replicate pad 0)) ∧ (∀ k, (Value.slice a4 (d + pad) c4).ownBlock = some k → k < w4.heap.size)) := ⟨ownsRow_below HO4.out.1 hb5, fun k hk => ownBlock_lt HO4.out.1 hk⟩; replace hR := hR.keep hb5; obtain ⟨p12, p13, p14, p15⟩ := hR.cells; replace hB := hB.trans (hb5.mono hB.size); clear hb5 ho5)))
  obtain ⟨g, rfl, hg1, hg2⟩ := own_at0 HO45.out.1 HPOS.out
  have HGB : Hid (w3.heap.size ≤ g ∧ g < w4.heap.size ∧ w.heap.size < w3.heap.size) := ⟨hg1, HO45.out.2 g rfl, HO4.out.2⟩
  have HST : Hid (Below w.heap.size w w5 ∧ Four w5 w.heap.size 25 (.int .i64 (k : Nat)) (.int .i64 (ch : Nat)) (.slice a len cap) (.int .i64 (pad : Nat))) := ⟨hB, hR⟩
  clear hB hR hQ hg1 hg2
  go_loopw [10] (fun i W => ∃ j : Nat, j ≤ pad ∧ i = .int .i64 ((d + j : Nat) : Int) ∧ Hid (Below w.heap.size w W ∧ Four W w.heap.size 25 (.int .i64 (k : Nat)) (.int .i64 (ch : Nat)) (.slice a len cap) (.int .i64 (pad : Nat)) ∧ W.ownsRow w3.heap.size 5 1 (.slice (some ⟨g, 0, none⟩) (d + pad) c4) (d + pad) (bvals (q ++ (List.replicate j x ++ List.replicate (pad - j) 0))) ∧ W.ownsRow w4.heap.size 5 1 (.slice a5 m5 c5) m5 (bvals (packN ⟨k, ch, fs, 0⟩)))) (fun i _ => d + pad - (intOf i).toNat)
  case atStart => exact ⟨0, Nat.zero_le _, by first | rfl | go_num | (congr 1; omega), HST.out.1, HST.out.2, HO45.out.1, HO5.out⟩
  case round =>
    clear HST HO45 HO5 p4 p5 p6 p7 p8 p9 p10 p11 p12 p13 p14 p15 q0 q1 q2 q3 q4 q5 q6 q7 q8 q9 q10 q11 p0 p1 p2 p3 s0 s1 s2 s3
    obtain ⟨j, hj, rfl, HR⟩ := hrel
    obtain ⟨r0, r1, r2, r3⟩ := HR.out.2.1.cells
    by_cases hlt : j < pad
    · obtain ⟨⟨v, hv⟩, hfz, _, _⟩ := Ob.at_ HR.out.2.2.1 (i := d + j) (by omega)
      have hbd : (0 : Int) ≤ (d : Int) + (j : Int) := by omega
      have hbd2 : (d : Int) + (j : Int) < (d : Int) + (pad : Int) := by omega
      go_wp2
      go_roundw
      case rel =>
        refine ⟨j + 1, by omega, by first | go_num | (congr 1; omega), HR.out.1.setCell (by show w.heap.size ≤ g; have := HGB.out; omega) _, HR.out.2.1.other _ (by have := HGB.out; omega) _, ?_, ownsRow_of_block HR.out.2.2.2 fun k hk => Below.heap_setCell _ _ _ _ (by show k ≠ g; have h1 := (HR.out.2.2.2.lt k hk).1; have h2 := HGB.out.2.1; omega)⟩
        have h8 := Ob.set HR.out.2.2.1 (i := d + j) (by omega) x
        have e : (q ++ (List.replicate j x ++ List.replicate (pad - j) 0)).set (d + j) x = q ++ (List.replicate (j + 1) x ++ List.replicate (pad - (j + 1)) 0) := by
          have h9 := set_pad q j (pad - (j + 1)) x
          rw [show pad - (j + 1) + 1 = pad - j by omega, HD.out] at h9
          exact h9
        rw [e] at h8
        exact h8
      case measure => simp [intOf]; omega
    · obtain rfl : j = pad := by omega
      have HOB : Hid (Bs wr (some ⟨g, 0, none⟩) (d + j) c4 (q ++ List.replicate j x)) := by
        have h8 := HR.out.2.2.1
        rw [Nat.sub_self, List.replicate_zero, List.append_nil] at h8
        exact (Ob.bs h8 HSQ.out (by omega)).1
      have hm5 : m5 ≤ 100000 := by have h8 := owned_len HR.out.2.2.2; have h9 := HS0.out.2; omega
      have HOC : Hid (Bs wr a5 m5 c5 (packN ⟨k, ch, fs, 0⟩)) := (Ob.bs HR.out.2.2.2 HS0.out.1 (by omega)).1
      have hB := HR.out.1
      have hR := HR.out.2.1
      clear HR hlt
      have y3 : Hid True := trivial
      go_wp2_with (first
        | (go_at_call 10; clear y3; go_loud (refine (parse_any _ _ _ _ _ HOB.out (HC.out.keep hB)).mono ?_; rintro e w7 ⟨he, hb7⟩; obtain ⟨a7, c7, rfl, hf7⟩ := he.elim HQ2.out; have HF7 : Hid (∃ B, FramesAt w7 B a7 fs) := ⟨_, hf7.at_.2.1⟩; have hX := four_new w7 (.int .i64 (k : Nat)) (.int .i64 (ch : Nat)) (.slice a7 fs.length c7) (.int .i64 (j : Nat)) 25; have HOC7 : Hid (Bs w7 a5 m5 c5 (packN ⟨k, ch, fs, 0⟩)) := HOC.out.keep hb7; replace hR := hR.keep hb7; replace hB := hB.trans (hb7.mono hB.size); rw [HN.out] at hX ⊢; clear he hb7 hf7))
        | (go_at_call 10; go_loud (have hA := (Below.refl w7.heap.size w7).alloc (Nat.le_refl _) (.cells #[.int .i64 (k : Nat), .int .i64 (ch : Nat), .slice a7 len c7, .int .i64 (j : Nat)] 25); refine (parse_any _ _ _ _ _ (HOC7.out.keep hA) (HC.out.keep (hB.trans (hA.mono hB.size)))).mono ?_; rintro e w8 ⟨he, hb8⟩; obtain ⟨a8, c8, rfl, hf8⟩ := he.elim HQ3.out; have HF8 : Hid (Frs (w7.heap.size + 1) w8 (.slice a8 fs.length c8) fs) := (by have h := hf8; rw [World.size_alloc] at h; exact h); replace hX := hX.keep hb8; have hA8 := hA.trans (hb8.mono hA.size); have HA8 : Hid (Below w7.heap.size w7 w8) := hA8; replace hR := hR.keep hA8; obtain ⟨x0, x1, x2, x3⟩ := hX.cells; obtain ⟨t0, t1, t2, t3⟩ := hX.cellsA; obtain ⟨p0, p1, p2, p3⟩ := hR.cells; obtain ⟨s0, s1, s2, s3⟩ := hR.cellsA; have hfx := hX.frozenA 3; have hz7 : w7.heap.size < w8.heap.size := hX.lt; have hzr : w.heap.size < w8.heap.size := hR.lt; have HB8 : Hid (Below w.heap.size w w7) := hB; replace hB := hB.trans (hA8.mono hB.size); rw [HN.out]; clear he hb8 hf8 hA8))
        | (go_at_call 16; go_loud (have hS7 := HA8.out.setCell (p := ⟨w7.heap.size, 3, none⟩) (Nat.le_refl _) (.int .i64 0); have hSw := hB.setCell (p := ⟨w7.heap.size, 3, none⟩) (by show w.heap.size ≤ w7.heap.size; exact HB8.out.size) (.int .i64 0); have hW7 := hS7.alloc hS7.size (.cells #[.int .i64 (k : Nat), .int .i64 (ch : Nat), .slice a8 len c8, .int .i64 0] 25); have hWw := hSw.alloc hSw.size (.cells #[.int .i64 (k : Nat), .int .i64 (ch : Nat), .slice a8 len c8, .int .i64 0] 25); obtain ⟨B7, hf7'⟩ := HF7.out; have hf8' := ((HF8.out.of_blocks (w' := w8.setCell ⟨w7.heap.size, 3, none⟩ (.int .i64 0)) (fun k hk _ => Below.heap_setCell _ _ _ _ (by show k ≠ w7.heap.size; omega))).keep ((Below.refl _ _).alloc (Nat.le_refl _) (.cells #[.int .i64 (k : Nat), .int .i64 (ch : Nat), .slice a8 len c8, .int .i64 0] 25))).at_.2.1; refine (is_same _ _ _ _ _ len _ _ fs B7 (w7.heap.size + 1) _ (hf7'.keep hW7) hf8' HN.out (by omega)).mono ?_; rintro e w9 ⟨rfl, hb9⟩; have HEND : Hid (Below w.heap.size w w9) := hWw.trans (hb9.mono hWw.size); clear hb9 hS7 hSw hW7 hWw hf7' hf8')))
      go_ret
      exact ⟨rfl, HEND.out⟩

theorem tocPads.walk (c ch pad : Int) (a : Option Addr) (len cap : Nat) (vs : Nat → FrV) (x : Int) (w : World) (_ : (Lit.int .i64 c).wf = true) (_ : (Lit.int .i64 ch).wf = true) (_ : (Lit.int .i64 pad).wf = true) (hv : RowsAt w a len cap vs) (wx : (Lit.int .u8 x).wf = true) (hc : CfgAt w) :
    Calls Tryd.prog 8 #[.agg #[.int .i64 c, .int .i64 ch, .slice a len cap, .int .i64 pad], .int .u8 x] w fun e w' => e = .returned (.bool true) ∧ Below w.heap.size w w' := by
  obtain ⟨hF, hn, _, hcap, hmax⟩ := frames_in hv
  unfold maxLen at hmax
  by_cases hg : goodI c ch pad (framesOf len vs)
  · obtain ⟨k, h', p, rfl, rfl, rfl, hgp⟩ := goodP_of hg
    obtain ⟨hx0, hx1⟩ := bounds_u8 wx
    obtain ⟨y, rfl⟩ := Int.eq_ofNat_of_zero_le hx0
    exact pads_good k h' p a len cap _ y w hF hn hcap (by omega) hgp (frames_small hF) hc
  · exact pads_bad c ch pad a len cap _ x w hF hn (by omega) hg hc

end Go.Proofs.YtgiellpepnbpcaaDoor
