/- Texts put together: PulseJ PulseK PulseL. -/
import Derived.Test.YtdbgcbbfnjoebaaMD
/- Package pulse, what writes: pulses shared over samples, a block. -/
namespace Go.Proofs.Ytdbgcbbfnjoebaa
open Go.RowKit

theorem takeE_whole {s : Es} (h : InvE s) : takeE s 0 1 1 = s := by
  have e : narrowEs s 0 1 1 = s := by
    unfold narrowEs narrowE
    simp
  unfold takeE
  rw [e]
  unfold onE
  rw [if_neg (by have := h.wide; omega)]

theorem writeA_uint (n v : Int) (s : Es) : writeA (avUint n v) s = uintEs v.toNat n.toNat s := rfl
theorem writeA_bits (n v : Int) (s : Es) : writeA (avBits n v) s = bitsE v.toNat n.toNat s := rfl
theorem writeA_sym (t : List Int) (v : Int) (s : Es) : writeA (avSym t v) s = takeE s (symFl t v.toNat) (symFh t v.toNat) 256 := rfl

theorem writeA_none {s : Es} (h : InvE s) : writeA (avUint (0 + 1) 0) s = s := by
  rw [writeA_uint]
  show uintEs 0 1 s = s
  unfold uintEs
  rw [if_pos (by decide)]
  exact takeE_whole h

theorem sumP_zeros (k : Nat) : sumP (List.replicate k 0) = 0 := by
  induction k with
  | zero => rfl
  | succ k ih => show 0 + sumP (List.replicate k 0) = 0; omega

/-- Where there are no pulses nothing is told. -/
theorem shareL_none {s : Es} (h : InvE s) : ∀ d : Nat, writesA (shareL d (List.replicate (2 ^ d) 0)) s = s
  | 0 => rfl
  | d + 1 => by
    have e : (2 : Nat) ^ (d + 1) = 2 ^ d + 2 ^ d := by rw [Nat.pow_succ]; omega
    have e1 : (List.replicate (2 ^ (d + 1)) (0 : Int)).take (2 ^ d) = List.replicate (2 ^ d) 0 := by rw [List.take_replicate, e, Nat.min_eq_left (Nat.le_add_left _ _)]
    have e2 : (List.replicate (2 ^ (d + 1)) (0 : Int)).drop (2 ^ d) = List.replicate (2 ^ d) 0 := by rw [List.drop_replicate, e, Nat.add_sub_cancel]
    show writesA (shareL d ((List.replicate (2 ^ (d + 1)) 0).take (2 ^ d)) ++ shareL d ((List.replicate (2 ^ (d + 1)) 0).drop (2 ^ d))) (writeA (avUint (sumP (List.replicate (2 ^ (d + 1)) 0) + 1) (sumP ((List.replicate (2 ^ (d + 1)) 0).take (2 ^ d)))) s) = s
    rw [e1, e2, sumP_zeros, sumP_zeros, writeA_none h, writesA_append, shareL_none h d, shareL_none h d]

theorem zeros_map {l : List Int} (h : pulsesN l = 0) : l.map absI = List.replicate l.length 0 := by
  have h1 := zeros_of h
  rw [h1, List.map_replicate, List.length_replicate]
  rfl

theorem went_lt {S S' : Nat → Prop} {w w' : World} {g : Nat} (h : Went S w S' w') (h1 : g < w.heap.size) (h2 : ¬ S g) : w'.heap[g]? = w.heap[g]? ∧ g < w'.heap.size ∧ ¬ S' g :=
  ⟨h.block g h1 h2, Nat.lt_of_lt_of_le h1 h.size, fun hs => by rcases h.sub g hs with h3 | h3; exact h2 h3; omega⟩

set_option maxRecDepth 100000 in
set_option maxHeartbeats 1600000 in
theorem writeShares_any (p g : Nat) : ∀ (d : Nat) (l : List Int) (s : Es) (S : Nat → Prop) (n o cap : Nat) (w : World), Wd S p s w → InvE s → s.cnt + 48 * n ≤ 10000000000000 → n = 2 ^ d → n ≤ 16 → l.length = n → Small l → pulsesN l ≤ 16 → n ≤ cap → Sg w g o l → g < w.heap.size → ¬ S g →
    Calls Try.prog 54 #[.pointer (some ⟨p, 0, none⟩), .slice (some ⟨g, o, none⟩) n cap] w fun e w' => e = .returned (.tuple #[]) ∧ ∃ S', Wd S' p (writesA (shareL d (l.map absI)) s) w' ∧ Went S w S' w' := by
  intro d
  induction d with
  | zero =>
    intro l s S n o cap w h hi hc hn hn16 hl hsm hp hcap hz hg hS
    have HX : Hid (Wd S p s w ∧ Sg w g o l ∧ l.length = n ∧ n ≤ 480 ∧ Small l) := ⟨h, hz, hl, by omega, hsm⟩
    obtain ⟨K, hK⟩ : ∃ K, pulsesN l = K := ⟨_, rfl⟩
    have HK : Hid (pulsesN l = K) := hK
    obtain rfl : n = 1 := hn
    clear h hi hc hl hsm hp hcap hz hg hS hK hn16
    by_cases h0 : K = 0
    · have hz : (K == 0) = true := beq_iff_eq.2 h0
      clear h0
      go_enter Try.func54, Try.ntmps54
      go_wp2_with (go_at_call 52; refine (together_any g o 1 cap l _ HX.out.2.1 HX.out.2.2.1 HX.out.2.2.2.1 HX.out.2.2.2.2).mono ?_; rw [HK.out]; rintro e w' ⟨rfl, rfl⟩)
      refine bodyPost_ret (results_none rfl _ _ _) rfl ?_
      exact ⟨rfl, S, HX.out.1, .refl _ _⟩
    · have hz : (K == 0) = false := beq_eq_false_iff_ne.2 h0
      clear h0
      go_enter Try.func54, Try.ntmps54
      go_wp2_with (go_at_call 52; refine (together_any g o 1 cap l _ HX.out.2.1 HX.out.2.2.1 HX.out.2.2.2.1 HX.out.2.2.2.2).mono ?_; rw [HK.out]; rintro e w' ⟨rfl, rfl⟩)
      refine bodyPost_ret (results_none rfl _ _ _) rfl ?_
      exact ⟨rfl, S, HX.out.1, .refl _ _⟩
  | succ d ih =>
    intro l s S n o cap w h hi hc hn hn16 hl hsm hp hcap hz hg hS
    obtain ⟨K, hK⟩ : ∃ K, pulsesN l = K := ⟨_, rfl⟩
    have HK : Hid (pulsesN l = K) := hK
    have HX : Hid (Wd S p s w ∧ Sg w g o l ∧ l.length = n ∧ n ≤ 480 ∧ Small l) := ⟨h, hz, hl, by omega, hsm⟩
    by_cases h0 : K = 0
    · have hzb : (K == 0) = true := beq_iff_eq.2 h0
      have HE : Hid (writesA (shareL (d + 1) (l.map absI)) s = s) := by
        show _ = _
        rw [zeros_map (by omega), hl, hn]
        exact shareL_none hi (d + 1)
      clear h hi hc hn hl hsm hp hcap hz hg hS hK hn16 ih h0
      go_enter Try.func54, Try.ntmps54
      go_wp2_with (go_at_call 52; refine (together_any g o n cap l _ HX.out.2.1 HX.out.2.2.1 HX.out.2.2.2.1 HX.out.2.2.2.2).mono ?_; rw [HK.out]; rintro e w' ⟨rfl, rfl⟩)
      refine bodyPost_ret (results_none rfl _ _ _) rfl ?_
      exact ⟨rfl, S, by rw [HE.out]; exact HX.out.1, .refl _ _⟩
    · have hzb : (K == 0) = false := beq_eq_false_iff_ne.2 h0
      have hmp := pow_pos2 d
      obtain ⟨m, hm⟩ : ∃ m, 2 ^ d = m := ⟨_, rfl⟩
      rw [hm] at hmp
      have hnm : n = m + m := by rw [hn, Nat.pow_succ, Nat.mul_two, hm]
      have hs1 : m ≤ n := by omega
      have hs2 : m ≤ cap := by omega
      have hs3 : (m : Int) ≤ n := by omega
      have hs4 : (m : Int) ≤ cap := by omega
      have HS5 : Hid (¬ cap = m) := by show ¬ _; omega
      have hw6 : n - m = m := by omega
      have hnI : ((n : Int) == 1) = false := beq_eq_false_iff_ne.2 (by omega)
      have HQ : Hid (wrap64 ((n : Int) / 2) = m) := by show _ = _; rw [show (n : Int) / 2 = m by omega]; exact wrap_n (by omega) (by omega)
      obtain ⟨F, hF⟩ : ∃ F, pulsesN (l.take m) = F := ⟨_, rfl⟩
      have hF0 := pulsesN_nonneg (l.take m)
      have hR0 := pulsesN_nonneg (l.drop m)
      have hsum : pulsesN (l.take m) + pulsesN (l.drop m) = pulsesN l := by rw [← pulsesN_append, List.take_append_drop]
      have HTK : Hid (∀ W, Sg W g o l → Calls Try.prog 52 #[.slice (some ⟨g, o, none⟩) m cap] W fun e w' => e = .returned (.int .i64 F) ∧ w' = W) := fun W hW => by
        have := together_any g o m cap (l.take m) W (hW.take m) (by rw [List.length_take]; omega) (by omega) (hsm.take m)
        rw [hF] at this
        exact this
      have eL : shareL (d + 1) (l.map absI) = avUint (K + 1) F :: (shareL d ((l.take m).map absI) ++ shareL d ((l.drop m).map absI)) := by
        show avUint (sumP (l.map absI) + 1) (sumP ((l.map absI).take (2 ^ d))) :: (shareL d ((l.map absI).take (2 ^ d)) ++ shareL d ((l.map absI).drop (2 ^ d))) = _
        rw [hm, ← List.map_take, ← List.map_drop]
        show avUint (pulsesN l + 1) (pulsesN (l.take m)) :: _ = _
        rw [hK, hF]
      have hmay : mayA (avUint (K + 1) F) := avUint_may (by omega) (by omega) (by omega) (by omega)
      obtain ⟨t1, ht1⟩ : ∃ t, writeA (avUint (K + 1) F) s = t := ⟨_, rfl⟩
      obtain ⟨t2, ht2⟩ : ∃ t, writesA (shareL d ((l.take m).map absI)) t1 = t := ⟨_, rfl⟩
      obtain ⟨t3, ht3⟩ : ∃ t, writesA (shareL d ((l.drop m).map absI)) t2 = t := ⟨_, rfl⟩
      have eT : writesA (shareL (d + 1) (l.map absI)) s = t3 := by
        rw [eL]
        show writesA (_ ++ _) (writeA (avUint (K + 1) F) s) = _
        rw [ht1, writesA_append, ht2, ht3]
      have i1 : InvE t1 := by rw [← ht1]; exact writeA_inv hmay hi
      have c1 : t1.cnt ≤ s.cnt + 48 := by rw [← ht1]; exact writeA_cnt _ hmay s
      have hlen1 : ((l.take m).map absI).length = 2 ^ d := by rw [List.length_map, List.length_take, hm]; omega
      have hmayL := shareL_may d ((l.take m).map absI) hlen1 (abs_nonneg _) (by show pulsesN (l.take m) ≤ _; omega)
      obtain ⟨i2, c2⟩ := writesA_inv (shareL d ((l.take m).map absI)) t1 hmayL i1
      have c3 := shareL_len d ((l.take m).map absI)
      rw [ht2] at i2 c2
      rw [hm] at c3
      have HU : Hid (∀ W T, Wd T p s W → Calls Try.prog 72 #[.pointer (some ⟨p, 0, none⟩), .int .i64 F, .int .i64 (K + 1)] W fun e w' => e = .returned (.int .i64 0) ∧ ∃ S', Wd S' p t1 w' ∧ Went T W S' w') := fun W T hW => by
        have := uintE_int T p s F (K + 1) W hW hi ⟨by omega, by omega, by omega, by omega⟩ (by omega)
        rw [← writeA_uint, ht1] at this
        exact this
      have HA : Hid (∀ W T, Wd T p t1 W → Sg W g o l → g < W.heap.size → ¬ T g → Calls Try.prog 54 #[.pointer (some ⟨p, 0, none⟩), .slice (some ⟨g, o, none⟩) m cap] W fun e w' => e = .returned (.tuple #[]) ∧ ∃ S', Wd S' p t2 w' ∧ Went T W S' w') := fun W T h1 h2 h3 h4 => by
        have := ih (l.take m) t1 T m o cap W h1 i1 (by omega) hm.symm (by omega) (by rw [List.length_take]; omega) (hsm.take m) (by omega) (by omega) (h2.take m) h3 h4
        rw [ht2] at this
        exact this
      have HB : Hid (∀ W T, Wd T p t2 W → Sg W g o l → g < W.heap.size → ¬ T g → Calls Try.prog 54 #[.pointer (some ⟨p, 0, none⟩), .slice (some ⟨g, o + m, none⟩) m (cap - m)] W fun e w' => e = .returned (.tuple #[]) ∧ ∃ S', Wd S' p t3 w' ∧ Went T W S' w') := fun W T h1 h2 h3 h4 => by
        have := ih (l.drop m) t2 T m (o + m) (cap - m) W h1 i2 (by omega) hm.symm (by omega) (by rw [List.length_drop]; omega) (hsm.drop m) (by omega) (by omega) (h2.drop m) h3 h4
        rw [ht3] at this
        exact this
      have HG : Hid (g < w.heap.size ∧ ¬ S g) := ⟨hg, hS⟩
      have hKb : 0 ≤ K := by omega
      have hKb2 : K ≤ 16 := by omega
      rw [eT]
      clear h hi hc hn hn16 hl hsm hp hcap hz hg hS hK h0 hmp hm hnm hF hF0 hR0 hsum eL hmay ht1 ht2 ht3 eT i1 c1 hlen1 hmayL i2 c2 c3 ih
      have hq := HQ.out
      have l1 : Hid True := trivial
      have l2 : Hid True := trivial
      go_enter Try.func54, Try.ntmps54
      go_wp2_with (first
        | (go_at_call 52; clear l1; refine (together_any g o n cap l _ HX.out.2.1 HX.out.2.2.1 HX.out.2.2.2.1 HX.out.2.2.2.2).mono ?_; rw [HK.out]; rintro e w' ⟨rfl, rfl⟩)
        | (go_at_call 52; go_loud (refine (HTK.out _ HX.out.2.1).mono ?_; rintro e w' ⟨rfl, rfl⟩))
        | (go_at_call 72; go_loud (refine (HU.out _ _ HX.out.1).mono ?_; rintro e w1 ⟨rfl, S1, hd1, hw1⟩; obtain ⟨b1, g1, n1⟩ := went_lt hw1 HG.out.1 HG.out.2; have hz1 := HX.out.2.1.of_block b1))
        | (go_at_call 54; clear l2; go_loud (refine (HA.out _ _ hd1 hz1 g1 n1).mono ?_; rintro e w2 ⟨rfl, S2, hd2, hw2⟩; obtain ⟨b2, g2, n2⟩ := went_lt hw2 g1 n1; have hz2 := hz1.of_block b2))
        | (go_at_call 54; rw [if_neg HS5.out]; go_loud (refine (HB.out _ _ hd2 hz2 g2 n2).mono ?_; rintro e w3 ⟨rfl, S3, hd3, hw3⟩)))
      go_end0
      exact ⟨rfl, S3, hd3, (hw1.trans hw2).trans hw3⟩

end Go.Proofs.Ytdbgcbbfnjoebaa

/- Package pulse, what writes: a block, all of it; what is good. -/
namespace Go.Proofs.Ytdbgcbbfnjoebaa
open Go.RowKit

theorem sgn_in (x : Int) : (if x < 0 then (1 : Int) else 0) = 0 ∨ (if x < 0 then (1 : Int) else 0) = 1 := by split <;> simp

theorem bitW_any (S : Nat → Prop) (p : Nat) (s : Es) (v : Int) (w : World) (h : Wd S p s w) (hi : InvE s) (hc : s.cnt ≤ 100000000000000) (hv : v = 0 ∨ v = 1) :
    Calls Try.prog 55 #[.pointer (some ⟨p, 0, none⟩), .int .i64 v, .int .i64 1] w fun e w' => e = .returned (.int .i64 0) ∧ ∃ S', Wd S' p (writeA (avBits 1 v) s) w' ∧ Went S w S' w' :=
  bitsE_int S p s v 1 w h hi ⟨by omega, by omega, by omega, by rcases hv with rfl | rfl <;> decide⟩ (by omega)

set_option maxRecDepth 100000 in
set_option maxHeartbeats 1600000 in
theorem writeBlock_any (p g : Nat) (l : List Int) (s : Es) (S : Nat → Prop) (o cap : Nat) (w : World) (h : Wd S p s w) (hi : InvE s) (hc : s.cnt ≤ 1000000000000) (hb : BlockP l) (hcap : 16 ≤ cap) (hz : Sg w g o l) (hg : g < w.heap.size) (hS : ¬ S g) :
    Calls Try.prog 31 #[.pointer (some ⟨p, 0, none⟩), .slice (some ⟨g, o, none⟩) 16 cap] w fun e w' => e = .returned (.tuple #[]) ∧ ∃ S', Wd S' p (writesA (blockL l) s) w' ∧ Went S w S' w' := by
  have hl := hb.len
  have hp : pulsesN l ≤ 16 := hb.few
  have hp0 := pulsesN_nonneg l
  have hsm : Small l := fun x hx => by
    have := pulsesN_mem hx
    unfold absI at this
    split at this <;> omega
  obtain ⟨K, hK⟩ : ∃ K, pulsesN l = K := ⟨_, rfl⟩
  have hmay1 : mayA (avSym (icdfL 5) K) := avSym_may ⟨good5.1, by omega, by rw [good5.2]; omega⟩
  obtain ⟨t1, ht1⟩ : ∃ t, writeA (avSym (icdfL 5) K) s = t := ⟨_, rfl⟩
  obtain ⟨t2, ht2⟩ : ∃ t, writesA (shareL 4 (l.map absI)) t1 = t := ⟨_, rfl⟩
  obtain ⟨t3, ht3⟩ : ∃ t, writesA (signL l) t2 = t := ⟨_, rfl⟩
  have eT : writesA (blockL l) s = t3 := by
    unfold blockL
    show writesA (shareL 4 (l.map absI) ++ signL l) (writeA (avSym (icdfL 5) (pulsesN l)) s) = _
    rw [hK, ht1, writesA_append, ht2, ht3]
  have i1 : InvE t1 := by rw [← ht1]; exact writeA_inv hmay1 hi
  have c1 : t1.cnt ≤ s.cnt + 48 := by rw [← ht1]; exact writeA_cnt _ hmay1 s
  obtain ⟨i2, c2⟩ := writesA_inv (shareL 4 (l.map absI)) t1 (shareL_may 4 (l.map absI) (by rw [List.length_map, hl]) (abs_nonneg _) (by show pulsesN l ≤ _; omega)) i1
  have c3 := shareL_len 4 (l.map absI)
  rw [ht2] at i2 c2
  have c3 : (shareL 4 (l.map absI)).length + 1 = 16 := c3
  have HX : Hid (Wd S p s w ∧ Sg w g o l ∧ l.length = 16 ∧ Small l ∧ g < w.heap.size ∧ ¬ S g) := ⟨h, hz, hl, hsm, hg, hS⟩
  have HTG : Hid (∀ W, Sg W g o l → Calls Try.prog 52 #[.slice (some ⟨g, o, none⟩) 16 cap] W fun e w' => e = .returned (.int .i64 K) ∧ w' = W) := fun W hW => by
    have := together_any g o 16 cap l W hW hl (by omega) hsm
    rw [hK] at this
    exact this
  have HSY : Hid (∀ a c W T, Wd T p s W → RowAt W a 17 (icdfL 5) → Calls Try.prog 53 #[.pointer (some ⟨p, 0, none⟩), .int .i64 K, .slice a 17 c] W fun e w' => e = .returned (.int .i64 0) ∧ ∃ S', Wd S' p t1 w' ∧ Went T W S' w') := fun a c W T h1 h2 => by
    have := symE_int T p s K a 17 c (icdfL 5) W h1 hi h2 (by omega) ⟨good5.1, by omega, by rw [good5.2]; omega⟩ (by omega)
    rw [← writeA_sym, ht1] at this
    exact this
  have HSH : Hid (∀ W T, Wd T p t1 W → Sg W g o l → g < W.heap.size → ¬ T g → Calls Try.prog 54 #[.pointer (some ⟨p, 0, none⟩), .slice (some ⟨g, o, none⟩) 16 cap] W fun e w' => e = .returned (.tuple #[]) ∧ ∃ S', Wd S' p t2 w' ∧ Went T W S' w') := fun W T h1 h2 h3 h4 => by
    have := writeShares_any p g 4 l t1 T 16 o cap W h1 i1 (by omega) rfl (by omega) hl hsm (by omega) hcap h2 h3 h4
    rw [ht2] at this
    exact this
  have HT2 : Hid (InvE t2 ∧ t2.cnt ≤ 2000000000000 ∧ writesA (signL l) t2 = t3) := ⟨i2, by omega, ht3⟩
  rw [eT]
  have hKb : 0 ≤ K := by omega
  clear h hi hc hb hcap hz hg hS hl hp hp0 hsm hK hmay1 ht1 ht2 ht3 eT i1 c1 i2 c2 c3
  go_enter Try.func31, Try.ntmps31
  go_wp2_with (first
    | (go_at_call 52; go_loud (refine (HTG.out _ HX.out.2.1).mono ?_; rintro e w' ⟨rfl, rfl⟩))
    | (go_at_call 49; go_loud (refine (icdf5_any _).mono ?_; rintro e w1 ⟨a, cap1, rfl, ht, hta, hb1⟩; have hd1 := HX.out.1.keep hb1; have hz1 := HX.out.2.1.of_block (hb1.block g HX.out.2.2.2.2.1); have g1 := Nat.lt_of_lt_of_le HX.out.2.2.2.2.1 hb1.size))
    | (go_at_call 53; go_loud (refine (HSY.out a cap1 _ _ hd1 ht).mono ?_; rintro e w2 ⟨rfl, S2, hd2, hw2⟩; obtain ⟨b2, g2, n2⟩ := went_lt hw2 g1 HX.out.2.2.2.2.2; have hz2 := hz1.of_block b2))
    | (go_at_call 54; go_loud (refine (HSH.out _ _ hd2 hz2 g2 n2).mono ?_; rintro e w3 ⟨rfl, S3, hd3, hw3⟩; obtain ⟨b3, g3, n3⟩ := went_lt hw3 g2 n2; have hz3 := hz2.of_block b3)))
  have hW3 : Went S w' S3 w3 := (((Went.refl S w').keep hb1).trans hw2).trans hw3
  clear hd1 hz1 g1 hd2 hw2 hw3 ht hta hb1 b2 g2 n2 hz2 b3
  go_loopw [16] (fun x W => ∃ (j : Nat) (t : Es) (T : Nat → Prop), j ≤ 16 ∧ x = .int .i64 j ∧ Wd T p t W ∧ Sg W g o l ∧ g < W.heap.size ∧ ¬ T g ∧ Went S w' T W ∧ Hid (InvE t ∧ t.cnt ≤ 2000000000000 + 48 * j ∧ writesA (signL (l.drop j)) t = t3)) (fun x _ => 16 - (intOf x).toNat)
  case atStart => exact ⟨0, t2, S3, by omega, rfl, hd3, hz3, g3, n3, hW3, HT2.out.1, by have := HT2.out.2.1; omega, HT2.out.2.2⟩
  case round =>
    clear hd3 hz3 g3 n3 hW3
    obtain ⟨j, t, T, hj, rfl, hd, hz, hg, hT, hW, HT⟩ := hrel
    by_cases hlt : j < 16
    · have hlen := HX.out.2.2.1
      have hcell := hz j (by omega)
      have hxb := HX.out.2.2.2.1.at (i := j) (by omega)
      have hs := HT.out.2.2
      rw [drop_at (l := l) (by omega)] at hs
      clear hlen
      generalize l[j]?.getD 0 = x at hcell hxb hs
      have HXB : Hid (-16 ≤ x ∧ x ≤ 16) := hxb
      have HZ : Hid (Sg wr g o l ∧ g < wr.heap.size ∧ ¬ T g) := ⟨hz, hg, hT⟩
      by_cases h0 : x = 0
      · subst h0
        have HN : Hid (InvE t ∧ t.cnt ≤ 2000000000000 + 48 * (j + 1 : Nat) ∧ writesA (signL (l.drop (j + 1))) t = t3) := ⟨HT.out.1, by have := HT.out.2.1; omega, hs⟩
        clear hs hxb
        go_wp2
        go_roundw
        case rel => exact ⟨j + 1, t, T, by omega, by go_num, hd, hz, hg, hT, hW, HN.out⟩
        case measure => simp [intOf]; omega
      · have e1 : signL (x :: l.drop (j + 1)) = avBits 1 (if x < 0 then 1 else 0) :: signL (l.drop (j + 1)) := if_neg h0
        rw [e1] at hs
        have hs : writesA (signL (l.drop (j + 1))) (writeA (avBits 1 (if x < 0 then 1 else 0)) t) = t3 := hs
        have hmay := avBits_may (sgn_in x)
        have i2 := writeA_inv hmay HT.out.1
        have c2 := writeA_cnt _ hmay t
        by_cases hneg : x < 0
        · rw [if_pos hneg] at hs i2 c2
          have HN : Hid (InvE (writeA (avBits 1 1) t) ∧ (writeA (avBits 1 1) t).cnt ≤ 2000000000000 + 48 * (j + 1 : Nat) ∧ writesA (signL (l.drop (j + 1))) (writeA (avBits 1 1) t) = t3) := ⟨i2, by have := HT.out.2.1; omega, hs⟩
          clear hs hxb i2 c2 hmay e1 h0 hz hg hT
          go_wp2_with (go_at_call 55; go_loud (refine (bitW_any T p t 1 _ hd HT.out.1 (by have := HT.out.2.1; omega) (.inr rfl)).mono ?_; rintro e w4 ⟨rfl, S4, hd4, hw4⟩; obtain ⟨b4, g4, n4⟩ := went_lt hw4 HZ.out.2.1 HZ.out.2.2))
          go_roundw
          case rel => exact ⟨j + 1, _, S4, by omega, by go_num, hd4, HZ.out.1.of_block b4, g4, n4, hW.trans hw4, HN.out⟩
          case measure => simp [intOf]; omega
        · rw [if_neg hneg] at hs i2 c2
          have HN : Hid (InvE (writeA (avBits 1 0) t) ∧ (writeA (avBits 1 0) t).cnt ≤ 2000000000000 + 48 * (j + 1 : Nat) ∧ writesA (signL (l.drop (j + 1))) (writeA (avBits 1 0) t) = t3) := ⟨i2, by have := HT.out.2.1; omega, hs⟩
          have hpos : 0 < x := by omega
          clear hs hxb i2 c2 hmay e1 h0 hz hg hT hneg
          go_wp2_with (go_at_call 55; go_loud (refine (bitW_any T p t 0 _ hd HT.out.1 (by have := HT.out.2.1; omega) (.inl rfl)).mono ?_; rintro e w4 ⟨rfl, S4, hd4, hw4⟩; obtain ⟨b4, g4, n4⟩ := went_lt hw4 HZ.out.2.1 HZ.out.2.2))
          go_roundw
          case rel => exact ⟨j + 1, _, S4, by omega, by go_num, hd4, HZ.out.1.of_block b4, g4, n4, hW.trans hw4, HN.out⟩
          case measure => simp [intOf]; omega
    · obtain rfl : j = 16 := by omega
      go_wp2
      go_end0
      have hs := HT.out.2.2
      rw [List.drop_eq_nil_of_le (by have := HX.out.2.2.1; omega)] at hs
      have hs : t = t3 := hs
      subst hs
      exact ⟨rfl, T, hd, hW⟩

/-! ### What is good -/
def blocksB : Nat → List Int → Bool
  | 0, _ => true
  | m + 1, l => decide (pulsesN (l.take 16) ≤ 16) && blocksB m (l.drop 16)
def goodL (l : List Int) : Bool := lenB l.length && blocksB (l.length / 16) l

theorem blocksB_good : ∀ (m : Nat) (l : List Int), l.length = 16 * m → (blocksB m l = true ↔ goodN m l)
  | 0, l, h => ⟨fun _ => List.eq_nil_of_length_eq_zero (by omega), fun _ => rfl⟩
  | m + 1, l, h => by
    have ih := blocksB_good m (l.drop 16) (by rw [List.length_drop]; omega)
    constructor
    · intro hb
      have hb : (decide (pulsesN (l.take 16) ≤ 16) && blocksB m (l.drop 16)) = true := hb
      rw [Bool.and_eq_true] at hb
      exact ⟨⟨by rw [List.length_take]; omega, of_decide_eq_true hb.1⟩, ih.1 hb.2⟩
    · intro hg
      show (decide (pulsesN (l.take 16) ≤ 16) && blocksB m (l.drop 16)) = true
      rw [Bool.and_eq_true]
      exact ⟨decide_eq_true hg.1.few, ih.2 hg.2⟩

theorem goodL_iff {l : List Int} : goodL l = true ↔ ∃ m, 1 ≤ m ∧ m ≤ 30 ∧ goodN m l := by
  unfold goodL lenB
  constructor
  · intro h
    rw [Bool.and_eq_true] at h
    obtain ⟨h1, h2, h3⟩ := of_decide_eq_true h.1
    exact ⟨l.length / 16, by omega, by omega, (blocksB_good _ l (by omega)).1 h.2⟩
  · rintro ⟨m, h1, h2, h3⟩
    have hl := goodN_len m l h3
    rw [Bool.and_eq_true]
    refine ⟨decide_eq_true ⟨by omega, by omega, by omega⟩, ?_⟩
    rw [show l.length / 16 = m by omega]
    exact (blocksB_good m l hl).2 h3

theorem good_bad (a : Option Addr) (n cap : Nat) (w : World) (h : lenB (n : Int) = false) :
    Calls Try.prog 13 #[.slice a n cap] w fun e w' => e = .returned (.bool false) ∧ w' = w := by
  have HB : Hid (lenB (n : Int) = false) := h
  clear h
  go_enter Try.func13, Try.ntmps13
  go_wp2_with (go_at_call 25; refine (goodLength_any n _).mono ?_; rw [HB.out]; rintro e w' ⟨rfl, rfl⟩)
  go_ret
  exact ⟨rfl, rfl⟩

set_option maxRecDepth 100000 in
set_option maxHeartbeats 800000 in
theorem pgood_any (a : Option Addr) (n cap : Nat) (zs : List Int) (w : World) (hz : Zs w a n zs) (hcap : n ≤ cap) :
    Calls Try.prog 13 #[.slice a n cap] w fun e w' => e = .returned (.bool (goodL zs)) ∧ w' = w := by
  have hl := hz.len
  cases hb : lenB (n : Int) with
  | false =>
    refine (good_bad a n cap w hb).mono ?_
    rintro e w' ⟨rfl, rfl⟩
    refine ⟨?_, rfl⟩
    unfold goodL
    rw [hl, hb]
    rfl
  | true =>
    obtain ⟨h1, h2, h3⟩ := of_decide_eq_true hb
    obtain ⟨g, off, rfl, hg, hc⟩ := hz.at_ (by omega)
    obtain ⟨m, hm⟩ : ∃ m, n = 16 * m := ⟨n / 16, by omega⟩
    have HB : Hid (lenB (n : Int) = true) := hb
    have HZ : Hid (Sg w g off zs ∧ zs.length = n ∧ n = 16 * m ∧ n ≤ cap) := ⟨fun i hi => hc i (by omega), hl, hm, hcap⟩
    obtain ⟨G, hG⟩ : ∃ G, goodL zs = G := ⟨_, rfl⟩
    have HG : Hid (blocksB m zs = G) := by
      show _ = _
      rw [← hG]
      unfold goodL
      rw [hl, hb, show n / 16 = m by omega]
      rfl
    rw [hG]
    have hnI : (n : Int) ≤ 480 := h2
    have hnI0 : (16 : Int) ≤ (n : Int) := h1
    clear hz hcap hl hb h1 h2 h3 hg hc hm hG
    go_enter Try.func13, Try.ntmps13
    go_wp2_with (go_at_call 25; refine (goodLength_any n _).mono ?_; rw [HB.out]; rintro e w' ⟨rfl, rfl⟩)
    go_loop [3] (fun x => ∃ (j o : Nat), j ≤ m ∧ x = .int .i64 o ∧ Hid (o = 16 * j) ∧ Hid (blocksB (m - j) (zs.drop o) = G)) (fun x => n - (intOf x).toNat)
    case atStart => exact ⟨0, 0, Nat.zero_le _, rfl, rfl, HG.out⟩
    case round =>
      obtain ⟨j, o, hj, rfl, HO, HQ⟩ := hrel
      by_cases hlt : j < m
      · obtain ⟨q1, q2, q3, q4⟩ := HZ.out
        have hO := HO.out
        have hs1 : o + 16 ≤ n := by omega
        have hs2 : (o : Int) + 16 ≤ n := by omega
        have hs3 : (o : Int) < n := by omega
        have hs4 : o ≤ cap := by omega
        have hs5 : o + 16 ≤ cap := by omega
        have hs6 : (o : Int) + 16 ≤ cap := by omega
        have HN : Hid (¬ cap = o) := by show ¬ _; omega
        have HS : Hid ((decide (pulsesN ((zs.drop o).take 16) ≤ 16) && blocksB (m - (j + 1)) (zs.drop (o + 16))) = G) := by
          have := HQ.out
          rw [show m - j = (m - (j + 1)) + 1 by omega] at this
          have e : zs.drop (o + 16) = (zs.drop o).drop 16 := by rw [List.drop_drop]
          show (_ && blocksB _ (zs.drop (o + 16))) = G
          rw [e]
          exact this
        have HGB : Hid (∀ W, W = w' → Calls Try.prog 30 #[.slice (some ⟨g, off + o, none⟩) 16 (cap - o)] W fun e w2 => e = .returned (.bool (decide (pulsesN ((zs.drop o).take 16) ≤ 16))) ∧ w2 = W) := fun W hW => by
          rw [hW]
          exact goodBlock_any g (off + o) 16 (cap - o) _ w' ((q1.drop o).take 16) (by rw [List.length_take, List.length_drop]; omega) (by omega)
        clear q1 q2 q3 q4 hO HQ
        by_cases hk : pulsesN ((zs.drop o).take 16) ≤ 16
        · have HK : Hid (decide (pulsesN ((zs.drop o).take 16) ≤ 16) = true) := decide_eq_true hk
          have HNX : Hid (blocksB (m - (j + 1)) (zs.drop (o + 16)) = G) := by have := HS.out; rw [HK.out] at this; exact this
          clear hk HS
          go_wp2_with (go_at_call 30; go_loud (refine (HGB.out _ rfl).mono ?_; rw [HK.out]; rintro e w2 ⟨rfl, rfl⟩))
          go_round
          case rel => exact ⟨j + 1, o + 16, by omega, by go_num, by have := HO.out; show _ = _; omega, HNX.out⟩
          case measure => simp [intOf]; omega
        · have HK : Hid (decide (pulsesN ((zs.drop o).take 16) ≤ 16) = false) := decide_eq_false hk
          have HNX : Hid (G = false) := by have := HS.out; rw [HK.out] at this; exact this.symm
          clear hk HS
          go_wp2_with (go_at_call 30; go_loud (refine (HGB.out _ rfl).mono ?_; rw [HK.out]; rintro e w2 ⟨rfl, rfl⟩))
          go_ret
          exact ⟨by rw [HNX.out]; rfl, rfl⟩
      · obtain rfl : j = m := by omega
        have hs1 : ¬ ((o : Int) < n) := by have := HO.out; have := HZ.out.2.2.1; omega
        have HR : Hid (G = true) := by have := HQ.out; rw [Nat.sub_self] at this; exact this.symm
        go_wp2
        go_ret
        exact ⟨by rw [HR.out]; rfl, rfl⟩

end Go.Proofs.Ytdbgcbbfnjoebaa

/- Package pulse: Write. -/
namespace Go.Proofs.Ytdbgcbbfnjoebaa
open Go.RowKit

theorem write_bad (p : Nat) (a : Option Addr) (n cap : Nat) (zs : List Int) (w : World) (hz : Zs w a n zs) (hcap : n ≤ cap) (hb : goodL zs = false) :
    Calls Try.prog 14 #[.pointer (some ⟨p, 0, none⟩), .slice a n cap] w fun e w' => e = .returned (.int .i64 1) ∧ w' = w := by
  have HZ : Hid (Zs w a n zs ∧ n ≤ cap ∧ goodL zs = false) := ⟨hz, hcap, hb⟩
  clear hz hcap hb
  go_enter Try.func14, Try.ntmps14
  go_wp2_with (go_at_call 13; refine (pgood_any a n cap zs _ HZ.out.1 HZ.out.2.1).mono ?_; rw [HZ.out.2.2]; rintro e w' ⟨rfl, rfl⟩)
  go_ret
  exact ⟨rfl, rfl⟩

set_option maxRecDepth 100000 in
set_option maxHeartbeats 1600000 in
theorem write_any (S : Nat → Prop) (p : Nat) (s : Es) (g off n cap m : Nat) (zs : List Int) (w : World) (h : Wd S p s w) (hi : InvE s) (hc : s.cnt ≤ 100000000000) (hl : zs.length = n) (hcap : n ≤ cap) (hg : goodN m zs) (hm1 : 1 ≤ m) (hm : m ≤ 30) (hz : Sg w g off zs) (hgw : g < w.heap.size) (hS : ¬ S g) :
    Calls Try.prog 14 #[.pointer (some ⟨p, 0, none⟩), .slice (some ⟨g, off, none⟩) n cap] w fun e w' => e = .returned (.int .i64 0) ∧ ∃ S', Wd S' p (writesA (blocksL m zs) s) w' ∧ Went S w S' w' := by
  have hlen := goodN_len m zs hg
  have HGD : Hid (goodL zs = true) := goodL_iff.2 ⟨m, hm1, hm, hg⟩
  have HZS : Hid (Zs w (some ⟨g, off, none⟩) n zs) := ⟨hl, fun _ => ⟨g, off, rfl, hgw, fun i hi => hz i (by omega)⟩⟩
  have HX : Hid (Wd S p s w ∧ Sg w g off zs ∧ zs.length = n ∧ n = 16 * m ∧ n ≤ cap ∧ g < w.heap.size ∧ ¬ S g ∧ goodN m zs ∧ InvE s ∧ s.cnt ≤ 100000000000) := ⟨h, hz, hl, by omega, hcap, hgw, hS, hg, hi, hc⟩
  obtain ⟨E, hE⟩ : ∃ E, writesA (blocksL m zs) s = E := ⟨_, rfl⟩
  have HE : Hid (writesA (blocksL m zs) s = E) := hE
  rw [hE]
  have hnI : (n : Int) ≤ 480 := by omega
  have hnI0 : (16 : Int) ≤ (n : Int) := by omega
  have HM : Hid (m ≤ 30) := hm
  clear h hi hc hl hcap hg hm1 hm hz hgw hS hlen hE
  go_enter Try.func14, Try.ntmps14
  go_wp2_with (go_at_call 13; refine (pgood_any _ n cap zs _ HZS.out HX.out.2.2.2.2.1).mono ?_; rw [HGD.out]; rintro e w' ⟨rfl, rfl⟩)
  go_loopw [5] (fun x W => ∃ (j o : Nat) (t : Es) (T : Nat → Prop), j ≤ m ∧ x = .int .i64 o ∧ Wd T p t W ∧ Sg W g off zs ∧ g < W.heap.size ∧ ¬ T g ∧ Went S w' T W ∧ Hid (o = 16 * j ∧ InvE t ∧ t.cnt ≤ 100000000000 + 1536 * j ∧ goodN (m - j) (zs.drop o) ∧ writesA (blocksL (m - j) (zs.drop o)) t = E)) (fun x _ => n - (intOf x).toNat)
  case atStart => exact ⟨0, 0, s, S, Nat.zero_le _, rfl, HX.out.1, HX.out.2.1, HX.out.2.2.2.2.2.1, HX.out.2.2.2.2.2.2.1, .refl _ _, rfl, HX.out.2.2.2.2.2.2.2.2.1, HX.out.2.2.2.2.2.2.2.2.2, HX.out.2.2.2.2.2.2.2.1, HE.out⟩
  case round =>
    obtain ⟨j, o, t, T, hj, rfl, hd, hz, hg, hT, hW, HT⟩ := hrel
    by_cases hlt : j < m
    · obtain ⟨_, _, q3, q4, q5, _⟩ := HX.out
      obtain ⟨hO, t2, t3, t4, t5⟩ := HT.out
      have hM := HM.out
      have hs1 : o + 16 ≤ n := by omega
      have hs2 : (o : Int) + 16 ≤ n := by omega
      have hs3 : (o : Int) < n := by omega
      have hs4 : o ≤ cap := by omega
      have hs5 : o + 16 ≤ cap := by omega
      have hs6 : (o : Int) + 16 ≤ cap := by omega
      have e : zs.drop (o + 16) = (zs.drop o).drop 16 := by rw [List.drop_drop]
      rw [show m - j = (m - (j + 1)) + 1 by omega] at t4 t5
      have hmay := blockL_may t4.1
      have hbl := blockL_len t4.1
      obtain ⟨i2, c2⟩ := writesA_inv (blockL ((zs.drop o).take 16)) t hmay t2
      have t5 : writesA (blockL ((zs.drop o).take 16) ++ blocksL (m - (j + 1)) ((zs.drop o).drop 16)) t = E := t5
      rw [writesA_append, ← e] at t5
      have t6 : goodN (m - (j + 1)) ((zs.drop o).drop 16) := t4.2
      rw [← e] at t6
      obtain ⟨u, hu⟩ : ∃ u, writesA (blockL ((zs.drop o).take 16)) t = u := ⟨_, rfl⟩
      rw [hu] at t5 i2 c2
      have HWB : Hid (∀ W, Wd T p t W → Sg W g off zs → g < W.heap.size → Calls Try.prog 31 #[.pointer (some ⟨p, 0, none⟩), .slice (some ⟨g, off + o, none⟩) 16 (cap - o)] W fun e w' => e = .returned (.tuple #[]) ∧ ∃ S', Wd S' p u w' ∧ Went T W S' w') := fun W h1 h2 h3 => by
        have := writeBlock_any p g ((zs.drop o).take 16) t T (off + o) (cap - o) W h1 t2 (by omega) t4.1 (by omega) ((h2.drop o).take 16) h3 hT
        rw [hu] at this
        exact this
      have HN : Hid (o + 16 = 16 * (j + 1) ∧ InvE u ∧ u.cnt ≤ 100000000000 + 1536 * (j + 1 : Nat) ∧ goodN (m - (j + 1)) (zs.drop (o + 16)) ∧ writesA (blocksL (m - (j + 1)) (zs.drop (o + 16))) u = E) := ⟨by omega, i2, by omega, t6, t5⟩
      have HZ : Hid (g < wr.heap.size ∧ ¬ T g) := ⟨hg, hT⟩
      clear q3 q4 q5 hO t2 t3 t4 t5 t6 e hmay hbl i2 c2 hu hM HT hg hT
      go_wp2_with (go_at_call 31; go_loud (refine (HWB.out _ hd hz HZ.out.1).mono ?_; rintro e w2 ⟨rfl, S2, hd2, hw2⟩; obtain ⟨b2, g2, n2⟩ := went_lt hw2 HZ.out.1 HZ.out.2))
      go_roundw
      case rel => exact ⟨j + 1, o + 16, u, S2, by omega, by go_num, hd2, hz.of_block b2, g2, n2, hW.trans hw2, HN.out⟩
      case measure => simp [intOf]; omega
    · obtain rfl : j = m := by omega
      have hs1 : ¬ ((o : Int) < n) := by have := HT.out.1; have := HX.out.2.2.2.1; omega
      have HR : Hid (t = E) := by have := HT.out.2.2.2.2; rw [Nat.sub_self] at this; exact this
      go_wp2
      go_ret
      refine ⟨rfl, T, ?_, hW⟩
      rw [← HR.out]
      exact hd

end Go.Proofs.Ytdbgcbbfnjoebaa

