/- The index that is found, as the document's own answer has it. -/
import Derived.Test.YtpppnagodlpnjaaLsfK
import Derived.Deep.RegionLaw
import Derived.Deep.AppendLies
namespace Go.Proofs.Ytpppnagodlpnjaa
open Go.RowKit

/-- 'append(.., y)' of a number as one step of a region that draws: y has been laid into a block of its own, H. -/
theorem step_push_int {ops : Array Oper} {o : Oper} {a : Act} {W : World} {K : Act → World → Prop} {Q : Exit → Act → World → Prop} {E : Prop} (B : Nat) (v : Value) (n : Nat) (zs : List Int) (y : Int) (H : Nat)
    (hown : W.ownsRow B 3 1 v n (zs.map (Value.int .i64))) (hm : n ≤ 1000) (hB : B ≤ W.heap.size) (hnew : W.heap[H]? = some (.cells #[.int .i64 y] 3))
    (hgd : o.guard = none) (s x : Operand) (ho : o.op = .call { callee := .builtin .append, args := #[s, x], argTypes := #[27, 27] }) (hs : a.eval s = v) (hx : a.eval x = .slice (some ⟨H, 0, none⟩) 1 1)
    (hk : ∀ g cap w', w'.ownsRow B 3 1 (.slice (some ⟨g, 0, none⟩) (n + 1) cap) (n + 1) ((zs ++ [y]).map (Value.int .i64)) → Below B W w' → K (a.put o.dst (.slice (some ⟨g, 0, none⟩) (n + 1) cap)) w') :
    if Region.wanted o (yielded ops a.tmps) = true then Oper.wp Try.prog o a W K Q else E := by
  obtain ⟨i, hi, hzz⟩ := Option.map_eq_some_iff.1 info_int
  simp only [Prod.mk.injEq] at hzz
  obtain ⟨hz, hsz, hby⟩ := hzz
  refine step_append_lies _ hgd s x 27 ho B 3 i (.int .i64 0) 1 8 Try.underlying27 hi hz hsz hby rfl (by decide) v n (zs.map (Value.int .i64)) hs hown ⟨H, 0, none⟩ 1 1 [.int .i64 y] hx rfl
    (World.news_of_block hnew) (by intro u hu; simp at hu; subst hu; rfl) (by decide) (by unfold maxLen; omega) (by omega) hB _ rfl ?_
  intro g cap w' h4 h5 h6 _
  have e : (zs ++ [y]).map (Value.int .i64) = zs.map (Value.int .i64) ++ [.int .i64 y] := by rw [List.map_append]; rfl
  exact hk g cap w' (by rw [e]; exact h4) ((Below.refl B W).grown h5 hB (fun k hk => (hown.lt k hk).1))

theorem ownsRow_below {W W' : World} {B : Nat} {e : TypeId} {v : Value} {n : Nat} {xs : List Value} (h : W.ownsRow B e 1 v n xs) (hb : Below W.heap.size W W') : W'.ownsRow B e 1 v n xs := by
  obtain ⟨hl, h⟩ := h
  refine ⟨hl, ?_⟩
  rcases h with h | ⟨g, cap, cur, hv, hg, hh, hr⟩
  · exact .inl h
  · exact .inr ⟨g, cap, cur, hv, hg, (hb.block g (Array.getElem?_eq_some_iff.1 hh).1).trans hh, hr⟩

/-- The least so far, behind m rows: -1 where there is none. -/
def leastSo (f : Nat → Int) (m : Nat) : Int := if m = 0 then -1 else f (bestN f m)
theorem leastSo_step {f : Nat → Int} {m : Nat} (hf : ∀ j, 0 ≤ f j) : ((leastSo f m < 0 ∨ f m < leastSo f m) → bestN f (m + 1) = m ∧ leastSo f (m + 1) = f m) ∧ (¬ (leastSo f m < 0 ∨ f m < leastSo f m) → bestN f (m + 1) = bestN f m ∧ leastSo f (m + 1) = leastSo f m) := by
  have h1 : leastSo f (m + 1) = f (bestN f (m + 1)) := if_neg (Nat.succ_ne_zero m)
  rcases Nat.eq_zero_or_pos m with rfl | hm
  · have e0 : leastSo f 0 = -1 := rfl
    have e1 : bestN f 1 = 0 := Nat.lt_one_iff.1 (bestN_lt f 0)
    rw [h1, e0]
    refine ⟨fun _ => ⟨e1, by rw [show (0 : Nat) + 1 = 1 from rfl, e1]⟩, fun h => absurd (.inl (by decide)) h⟩
  · have e0 : leastSo f m = f (bestN f m) := if_neg (by omega)
    have h0 := hf (bestN f m)
    rw [h1, e0, bestN_step]
    constructor
    · intro h
      have h2 : f m < f (bestN f m) := by omega
      rw [if_pos h2]
      exact ⟨rfl, rfl⟩
    · intro h
      have h2 : ¬ f m < f (bestN f m) := by omega
      rw [if_neg h2]
      exact ⟨rfl, rfl⟩

set_option maxRecDepth 100000 in
set_option maxHeartbeats 4000000 in
theorem rsearch_any (want : List Int) (a : Option Addr) (n cap : Nat) (w : World) (h16 : n = 10 ∨ n = 16) (hz : Zs w a n want) :
    Calls Try.prog 20 #[.int .i64 (n : Int), .slice a n cap] w fun e w' => ∃ a' c', e = .returned (.tuple #[.int .i64 (oneZ n want : Nat), .slice a' n c']) ∧ NewRow 3 w.heap.size w' a' (twosZ n want) ∧ Below w.heap.size w w' := by
  have hI : (n : Int) = 10 ∨ (n : Int) = 16 := by omega
  have hn : 10 ≤ n ∧ n ≤ 16 := by omega
  have hus := stepZ_in n
  have HZ : Hid (Zs w a n want) := hz
  have HCL : Hid ((clL want).length = n) := by show _ = _; rw [clL_len, hz.len]
  have HLS : Hid (∀ i : Nat, i < 16 → ∀ W, Calls Try.prog 21 #[.int .i64 (n : Int), .int .i64 (i : Int)] W fun e w' => ∃ a' c', e = .returned (.slice a' n c') ∧ Zs w' a' n (lsfL n i) ∧ Below W.heap.size W w') := fun i hi W => by
    have hl : (lsfL (n : Int) (i : Int)).length = n := lsfL_len' hI (by omega) (by omega) rfl
    refine (rlsf_any n i W).mono ?_
    rintro e w' ⟨a', c', rfl, hn, hb⟩
    rw [hl]
    exact ⟨a', c', rfl, Zs.of_new hn hl, hb⟩
  have HIN : Hid (∀ i k : Nat, i < 16 → k < n → (0 ≤ atN (clL want) k ∧ atN (clL want) k ≤ 32768) ∧ (0 ≤ atN (lsfL (n : Int) (i : Int)) k ∧ atN (lsfL (n : Int) (i : Int)) k ≤ 32768)) := fun i k hi hk => by
    have hl : (lsfL (n : Int) (i : Int)).length = n := lsfL_len' hI (by omega) (by omega) rfl
    refine ⟨clL_in _ (by unfold atN; rw [List.getElem?_eq_getElem (by rw [HCL.out]; exact hk)]; exact List.getElem_mem _), lsfL_in hI (i := (i : Int)) (by omega) (by omega) _ (by unfold atN; rw [List.getElem?_eq_getElem (by rw [hl]; exact hk)]; exact List.getElem_mem _)⟩
  have HFZ : Hid (∀ i : Nat, i < 16 → sqN (atN (lsfL (n : Int) (i : Int))) (atN (clL want)) n = farZ n want i) := fun i hi => by rw [sqN_turn]; exact far_is hI rfl hi
  have HF0 : Hid (∀ j, 0 ≤ farZ n want j) := fun j => farZ_nonneg _ _ _
  have HO : Hid (oneZ n want = bestN (farZ n want) 16) := rfl
  have HTL : Hid ((twosZ n want).length = n) := twosZ_len _ _
  have HT : Hid (∀ k, k < n → (twosZ n want)[k]?.getD 0 = clampI ((atN (clL want) k - atN (lsfL (n : Int) (oneZ n want : Nat)) k + stepZ n / 2) / stepZ n) (-4) 4) := fun k hk => by
    have h1 := oneZ_lt n want
    rw [twosZ_at (by omega), ← clL_want, ← lsfL_at hI (i := (oneZ n want : Nat)) (k := k) (by omega) (by omega) (by omega), clampI_clZ _ _ _ (by decide)]
    rfl
  have h1lt := oneZ_lt n want
  have HSQ : Hid (∀ (f g : Nat → Int) k, sqN f g (k + 1) = sqN f g k + (f k - g k) * (f k - g k)) := fun _ _ _ => rfl
  clear hz hI h16
  generalize oneZ (n : Int) want = o at *
  generalize farZ (n : Int) want = f at *
  generalize twosZ (n : Int) want = T at *
  go_enter Try.func20, Try.ntmps20
  go_wp2_with (go_at_call 31; refine (rclamped_any _ _ _ want _ HZ.out (by omega)).mono ?_; rintro e w1 ⟨a1, c1, rfl, hn1, hb1⟩)
  have HC1 : Hid (∀ W, Below w1.heap.size w1 W → Zs W a1 n (clL want)) := fun W hb => (Zs.of_new hn1 HCL.out).keep hb
  have HB1 : Hid (Below w.heap.size w w1) := hb1
  clear hn1 hb1 HZ
  generalize clL want = c at *
  go_loopw [6, 7, 8, 9, 10, 11] (fun best least i _ _ _ W => ∃ m b : Nat, ∃ q : Int, m ≤ 16 ∧ i = .int .i64 m ∧ best = .int .i64 b ∧ least = .int .i64 q ∧ Hid (b = bestN f m ∧ q = leastSo f m) ∧ Below w1.heap.size w1 W) (fun _ _ i _ _ _ _ => 16 - (intOf i).toNat)
  case atStart => exact ⟨0, 0, -1, by decide, rfl, rfl, rfl, ⟨rfl, rfl⟩, Below.refl _ _⟩
  case round =>
    obtain ⟨m, b, q, hm, rfl, rfl, rfl, HQ, hb⟩ := hrel
    by_cases hlt : m < 16
    · go_wp2_with (go_at_call 21; refine (HLS.out m hlt _).mono ?_; rintro e w2 ⟨a2, c2, rfl, hz2, hb2⟩; replace hb := hb.trans (hb2.mono hb.size))
      have H1 : Hid (0 < n → ∃ b off, a1 = some ⟨b, off, none⟩ ∧ ∀ i, i < n → w2.cell? ⟨b, off + i, none⟩ = some (.int .i64 (atN c i))) := fun h => by obtain ⟨b, off, e, _, hc⟩ := (HC1.out w2 hb).at_ h; exact ⟨b, off, e, hc⟩
      have H2 : Hid (0 < n → ∃ b off, a2 = some ⟨b, off, none⟩ ∧ ∀ i, i < n → w2.cell? ⟨b, off + i, none⟩ = some (.int .i64 (atN (lsfL (n : Int) (m : Int)) i))) := fun h => by obtain ⟨b, off, e, _, hc⟩ := hz2.at_ h; exact ⟨b, off, e, hc⟩
      have HINm : Hid (∀ k, k < n → (0 ≤ atN c k ∧ atN c k ≤ 32768) ∧ (0 ≤ atN (lsfL (n : Int) (m : Int)) k ∧ atN (lsfL (n : Int) (m : Int)) k ≤ 32768)) := fun k hk => HIN.out m k hlt hk
      have HFm : Hid (sqN (atN (lsfL (n : Int) (m : Int))) (atN c) n = f m) := HFZ.out m hlt
      clear hz2 hb2
      generalize atN (lsfL (n : Int) (m : Int)) = g at *
      generalize atN c = h at *
      have HBK : Hid (Below w1.heap.size w1 w2) := hb
      clear hb
      go_loopw [10, 11] (fun s k W => (∃ d, W = w2.drewN d) ∧ ∃ j : Nat, ∃ z : Int, j ≤ n ∧ k = .int .i64 j ∧ s = .int .i64 z ∧ Hid (z = sqN g h j)) (fun _ k _ => n - (intOf k).toNat)
      case atStart => exact ⟨⟨0, rfl⟩, 0, 0, Nat.zero_le _, rfl, rfl, rfl⟩
      case round =>
        obtain ⟨⟨d, rfl⟩, j, z, hj, rfl, rfl, HS⟩ := hrel
        by_cases hjn : j < n
        · obtain ⟨b1, o1, rfl, g1⟩ := H1.out (by omega)
          obtain ⟨b2, o2, rfl, g2⟩ := H2.out (by omega)
          have hc1 := g1 j hjn
          have hc2 := g2 j hjn
          have hq1 := sqN_nonneg g h j
          have hq2 := sqN_le (a := g) (b := h) j (fun t ht => by have := HINm.out t (by omega); omega)
          have hi := HINm.out j hjn
          have HSs := HSQ.out g h j
          rw [← HS.out] at hq1 hq2 HSs
          have hd1 := sq_nonneg (g j - h j)
          have hd2 := sq_le (x := g j - h j) (by omega) (by omega)
          generalize g j = x at *
          generalize h j = y at *
          have HP : Hid (z + (x - y) * (x - y) = sqN g h (j + 1)) := HSs.symm
          clear g1 g2 HSs
          go_wp2
          go_quiet (fail)
          all_goals
            go_wp2
            go_roundw
            case rel => exact ⟨⟨_, rfl⟩, j + 1, _, by omega, by go_num, rfl, HP.out⟩
            case measure => simp [intOf]; omega
        · have hjn' : j = n := by omega
          subst hjn'
          have HSF : Hid (z = f m) := by show _ = _; rw [HS.out, HFm.out]
          have hs := leastSo_step (m := m) HF0.out
          rw [← HQ.out.1, ← HQ.out.2, ← HSF.out] at hs
          have HBD : Hid (Below w1.heap.size w1 (w2.drewN d)) := below_drewN HBK.out d
          clear HS HFm H1 H2 HINm
          by_cases hq : q < 0
          · have hs1 := hs.1 (.inl hq)
            have HN : Hid (m = bestN f (m + 1) ∧ z = leastSo f (m + 1)) := ⟨hs1.1.symm, hs1.2.symm⟩
            clear hs hs1
            go_wp2
            all_goals
              go_roundw
              case rel => exact ⟨m + 1, m, z, by omega, by go_num, rfl, rfl, HN, HBD.out⟩
              case measure => simp [intOf]; omega
          · by_cases hzq : z < q
            · have hs1 := hs.1 (.inr hzq)
              have HN : Hid (m = bestN f (m + 1) ∧ z = leastSo f (m + 1)) := ⟨hs1.1.symm, hs1.2.symm⟩
              clear hs hs1
              go_wp2
              all_goals
                go_roundw
                case rel => exact ⟨m + 1, m, z, by omega, by go_num, rfl, rfl, HN, HBD.out⟩
                case measure => simp [intOf]; omega
            · have hs1 := hs.2 (by omega)
              have HN : Hid (b = bestN f (m + 1) ∧ q = leastSo f (m + 1)) := ⟨hs1.1.symm, hs1.2.symm⟩
              clear hs hs1
              go_wp2
              all_goals
                go_roundw
                case rel => exact ⟨m + 1, b, q, by omega, by go_num, rfl, rfl, HN, HBD.out⟩
                case measure => simp [intOf]; omega
    · have hm' : m = 16 := by omega
      subst hm'
      have HBO : Hid (b = o) := by show _ = _; rw [HQ.out.1, HO.out]
      obtain rfl := HBO.out
      clear HQ HO HBO HFZ HF0 HSQ
      have HS0 : Hid (stepZ (n : Int) = stepZ (n : Int)) := rfl
      obtain ⟨U, hU⟩ : ∃ U, stepZ (n : Int) = U := ⟨_, rfl⟩
      have HU : Hid (∀ W, Calls Try.prog 22 #[.int .i64 (n : Int)] W fun e w' => e = .returned (.int .i64 U) ∧ w' = W) := fun W => by subst hU; exact rstep_any n W
      rw [hU] at hus HT
      have hu0 : 0 < U ∧ U ≤ 400 := by omega
      clear HS0 hU hus
      go_wp2_with (first
        | (go_at_call 21; refine (HLS.out b h1lt _).mono ?_; rintro e w2 ⟨a2, c2, rfl, hz2, hb2⟩; replace hb := hb.trans (hb2.mono hb.size))
        | (go_at_call 22; refine (HU.out _).mono ?_; rintro e w3 ⟨rfl, rfl⟩))
      have HA1 : Hid (∀ W, Below w3.heap.size w3 W → ∃ b off, a1 = some ⟨b, off, none⟩ ∧ ∀ i, i < n → W.cell? ⟨b, off + i, none⟩ = some (.int .i64 (atN c i))) := fun W hW => by obtain ⟨b, off, e, _, hc⟩ := (HC1.out W (hb.trans (hW.mono hb.size))).at_ (by omega); exact ⟨b, off, e, hc⟩
      have HA2 : Hid (∀ W, Below w3.heap.size w3 W → ∃ b2 off, a2 = some ⟨b2, off, none⟩ ∧ ∀ i, i < n → W.cell? ⟨b2, off + i, none⟩ = some (.int .i64 (atN (lsfL (n : Int) (b : Int)) i))) := fun W hW => by obtain ⟨b, off, e, _, hc⟩ := (hz2.keep hW).at_ (by omega); exact ⟨b, off, e, hc⟩
      have HINb : Hid (∀ k, k < n → (0 ≤ atN c k ∧ atN c k ≤ 32768) ∧ (0 ≤ atN (lsfL (n : Int) (b : Int)) k ∧ atN (lsfL (n : Int) (b : Int)) k ≤ 32768)) := fun k hk => HIN.out b k h1lt hk
      have hge : w.heap.size ≤ w3.heap.size := Nat.le_trans HB1.out.size hb.size
      have HBW : Hid (Below w.heap.size w w3) := HB1.out.trans (hb.mono HB1.out.size)
      clear hz2 hb2 HC1 HIN HLS HU hb HB1
      generalize atN (lsfL (n : Int) (b : Int)) = g at *
      generalize atN c = h at *
      go_loopw [13, 15] (fun v k W => ∃ m : Nat, m ≤ n ∧ k = .int .i64 m ∧ W.ownsRow w3.heap.size 3 1 v m ((T.take m).map (Value.int .i64)) ∧ Below w3.heap.size w3 W) (fun _ k _ => n - (intOf k).toNat)
      case atStart => exact ⟨0, Nat.zero_le _, rfl, World.ownsRow_nil _ _ _ _, Below.refl _ _⟩
      case round =>
        obtain ⟨m, hm, rfl, hown, hbel⟩ := hrel
        by_cases hlt : m < n
        · obtain ⟨b1, o1, rfl, g1⟩ := HA1.out wr hbel
          obtain ⟨b2, o2, rfl, g2⟩ := HA2.out wr hbel
          have hc1 := g1 m hlt
          have hc2 := g2 m hlt
          have hi := HINb.out m hlt
          have HTm : Hid (clampI ((h m - g m + U / 2) / U) (-4) 4 = T[m]?.getD 0) := (HT.out m hlt).symm
          have HTk : Hid (T.take m ++ [T[m]?.getD 0] = T.take (m + 1)) := (take_snoc (by rw [HTL.out]; exact hlt)).symm
          have HOW : Hid (wr.ownsRow w3.heap.size 3 1 (u13) m ((T.take m).map (Value.int .i64))) := hown
          have HBL : Hid (Below w3.heap.size w3 wr) := hbel
          have hsz := hbel.size
          clear g1 g2 HA1 HA2 HT HINb hown hbel
          generalize h m = x at *
          generalize g m = y at *
          have HW0 : Hid (IntKind.i64.wrap (x - y) = x - y) := by show _ = _; rw [IntKind.wrap_i64]; omega
          have HW1 : Hid (IntKind.i64.wrap (U.tdiv 2) = U / 2) := by show _ = _; rw [IntKind.wrap_i64, Int.tdiv_eq_ediv_of_nonneg (by omega)]; omega
          have HW2 : Hid (IntKind.i64.wrap (x - y + U / 2) = x - y + U / 2) := by show _ = _; rw [IntKind.wrap_i64]; omega
          go_wp2
          go_region_law (first
            | (go_simp; go_at_call 32; go_loud ((try rw [HW0.out]); (try rw [HW1.out]); (try rw [HW2.out]); refine (rdown_any _ _ _ (by omega) (by omega) (by omega)).mono ?_; rintro e w7 ⟨rfl, rfl⟩))
            | (go_simp; go_at_call 33; go_loud (refine (rclamp_any _ _ _ _).mono ?_; rw [HTm.out]; rintro e w8 ⟨rfl, rfl⟩))
            | (refine step_push_int w3.heap.size u13 m (T.take m) (T[m]?.getD 0) wr.heap.size (ownsRow_below HOW.out ((Below.refl _ _).drew.alloc (Nat.le_refl _) _)) (by omega) (by simp; omega) (heap_alloc_new wr.drew _) rfl (.tmp 70) (.tmp 86) (by rfl) (by rfl) (by rfl) ?_; intro g9 c9 w9 ho9 hb9; rw [HTk.out] at ho9; have HB9 : Hid (Below w3.heap.size w3 w9) := (HBL.out.drew.alloc hsz _).trans hb9; clear hb9))
          all_goals
            go_wp2
            go_roundw
            case rel => exact ⟨m + 1, by omega, by go_num, ho9, HB9.out⟩
            case measure => simp [intOf]; omega
        · have hm' : m = n := by omega
          subst hm'
          rw [List.take_of_length_le (by rw [HTL.out]; omega)] at hown
          obtain ⟨_, a', c', rfl, hnew⟩ := NewRow.of_owned hown
          have HN : Hid (NewRow 3 w.heap.size wr a' T ∧ Below w.heap.size w wr) := ⟨hnew.mono hge, HBW.out.trans (hbel.mono hge)⟩
          clear hown hnew HT HINb HA1 HA2
          go_wp2
          go_ret2
          exact ⟨_, _, rfl, HN.out.1, HN.out.2⟩

end Go.Proofs.Ytpppnagodlpnjaa
