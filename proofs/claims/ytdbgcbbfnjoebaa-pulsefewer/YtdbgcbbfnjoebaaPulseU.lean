/- The document's own Fewer. -/
import Derived.Test.YtdbgcbbfnjoebaaPulseS
namespace Go.Proofs.Ytdbgcbbfnjoebaa
open Go.RowKit

theorem rfewer_far (a : Option Addr) (n cap : Nat) (most : Int) (w : World) (h : 480 < n) :
    Calls Try.prog 24 #[.slice a n cap, .int .i64 most] w fun e w' => e = .returned (.slice none 0 0) ∧ w' = w := by
  have h1 : (480 : Int) < n := by omega
  clear h
  go_enter Try.func24, Try.ntmps24
  go_wp2
  go_ret
  exact ⟨rfl, rfl⟩

theorem takeD_snoc {D : List Int} {k : Nat} (h : k < D.length) : D.take k ++ [D[k]?.getD 0] = D.take (k + 1) := by
  rw [List.take_add_one, getD_some h]
  rfl

theorem topN_le (l : List Int) : ∀ c, topN l c ≤ c
  | 0 => Nat.le_refl _
  | c + 1 => by
    unfold topN
    split
    · omega
    · have := topN_le l c; omega

/-- What stands in a row while a block's pulses are left out. -/
theorem decK_next {k : Nat} {X : List Int} : decK (k + 1) X = (decK k X).set (topN (decK k X) X.length) (decV ((decK k X)[topN (decK k X) X.length]?.getD 0)) := by
  rw [decK_step]
  unfold decI
  rw [decK_len]

set_option maxRecDepth 100000 in
set_option maxHeartbeats 6400000 in
theorem rfewer_any (a : Option Addr) (n cap : Nat) (most : Int) (zs : List Int) (w : World) (hz : Zs w a n zs) (hn : n ≤ 480) :
    Calls Try.prog 24 #[.slice a n cap, .int .i64 most] w fun e w' => ∃ a2 cap2, e = .returned (.slice a2 n cap2) ∧ NewRow 2 w.heap.size w' a2 (fewerL most zs) ∧ Below w.heap.size w w' := by
  have hl := hz.len
  have HX : Hid (Zs w a n zs ∧ zs.length = n ∧ n ≤ 480) := ⟨hz, hl, hn⟩
  obtain ⟨D, hD⟩ : ∃ D, zs.map cl16 = D := ⟨_, rfl⟩
  obtain ⟨t, ht⟩ : ∃ t, clampI most 0 16 = t := ⟨_, rfl⟩
  have HD : Hid (D.length = n ∧ (∀ k : Nat, k < n → D[k]?.getD 0 = cl16 (zs[k]?.getD 0)) ∧ Small D) := by
    rw [← hD]
    refine ⟨by rw [List.length_map, hl], fun k hk => ?_, fun x hx => ?_⟩
    · rw [List.getElem?_map, List.getElem?_eq_getElem (by omega)]
      rfl
    · obtain ⟨y, _, rfl⟩ := List.mem_map.1 hx
      exact cl16_in y
  have HF : Hid (fewerL most zs = fewsL t ((n + 15) / 16) D) := by
    show fewsL (clampI most 0 16) ((zs.length + 15) / 16) (zs.map cl16) = _
    rw [hD, ht, hl]
  have HT : Hid (clampI most 0 16 = t ∧ 0 ≤ t ∧ t ≤ 16) := by
    refine ⟨ht, ?_⟩
    rw [← ht]
    unfold clampI
    split <;> (try split) <;> (try split) <;> omega
  have HCT : Hid (∀ W, Calls Try.prog 46 #[.int .i64 most, .int .i64 0, .int .i64 16] W fun e' w' => e' = .returned (.int .i64 t) ∧ w' = W) := fun W => by
    have := rclamp_any most 0 16 W
    rw [ht] at this
    exact this
  have hnI : (n : Int) ≤ 480 := by omega
  clear hz hl hn hD ht
  go_enter Try.func24, Try.ntmps24
  go_wp2_with (go_at_call 46; refine (HCT.out _).mono ?_; rintro e' w' ⟨rfl, rfl⟩)
  go_loopw [6, 7] (fun v x W => ∃ k : Nat, k ≤ n ∧ x = .int .i64 k ∧ W.ownsRow w'.heap.size 2 1 v k ((D.take k).map (Value.int .i64)) ∧ Below w'.heap.size w' W) (fun _ x _ => n - (intOf x).toNat)
  case atStart => exact ⟨0, Nat.zero_le _, rfl, World.ownsRow_nil w' w'.heap.size _ 1, Below.refl _ _⟩
  case round =>
    obtain ⟨k, hk, rfl, hown, hb⟩ := hrel
    by_cases hlt : k < n
    · obtain ⟨b, off, rfl, hbl, hc⟩ := HX.out.1.at_ (by omega)
      have hcell := (hb.cell (p := ⟨b, off + k, none⟩) hbl).trans (hc k hlt)
      have hd := HD.out.2.1 k hlt
      have htk := takeD_snoc (D := D) (k := k) (by have := HD.out.1; omega)
      rw [hd] at htk
      generalize zs[k]?.getD 0 = x at hcell htk
      have HCL : Hid (∀ W, Calls Try.prog 46 #[.int .i64 x, .int .i64 (-16), .int .i64 16] W fun e' w' => e' = .returned (.int .i64 (cl16 x)) ∧ w' = W) := fun W => rclamp_any x (-16) 16 W
      generalize cl16 x = y at htk HCL
      have HO : Hid (wr.ownsRow w'.heap.size 2 1 u6 k ((D.take k).map (Value.int .i64)) ∧ w'.heap.size ≤ wr.heap.size ∧ D.take k ++ [y] = D.take (k + 1) ∧ k ≤ 1000000) := ⟨hown, hb.size, htk, by have := HX.out.2.2; omega⟩
      have hkI : (k : Int) < n := by omega
      clear hc hd htk hbl hown
      go_wp2_with (first
        | (go_at_call 46; go_loud (refine (HCL.out _).mono ?_; rintro e' w2 ⟨rfl, rfl⟩))
        | (at_builtin; go_loud (refine wpList_append_one 23 2 Try.underlying23 info_int64 w'.heap.size _ k (D.take k) y HO.out.1 HO.out.2.2.2 HO.out.2.1 rfl _ _ rfl rfl rfl ?_; intro v3 w3 ho3 hb3)))
      go_roundw
      case rel => exact ⟨k + 1, by omega, by go_num, by rw [← HO.out.2.2.1]; exact ho3, hb.trans hb3⟩
      case measure => simp [intOf]; omega
    · obtain rfl : k = n := by omega
      rw [List.take_of_length_le (by have := HD.out.1; omega)] at hown
      obtain ⟨_, a2, cap2, rfl, hnew⟩ := NewRow.of_owned hown
      have HR : Hid (NewRow 2 w'.heap.size wr a2 D) := hnew
      clear hlt hk hown hnew
      have hnk : ¬ ((k : Int) < k) := by omega
      go_wp2
      go_loopw [8] (fun x W => ∃ (j o : Nat), x = .int .i64 o ∧ Below w'.heap.size w' W ∧ NewRow 2 w'.heap.size W a2 (fewsL t j D ++ D.drop (16 * j)) ∧ Hid (o = 16 * j ∧ (k ≤ o → j = (k + 15) / 16) ∧ o ≤ k + 15)) (fun x _ => k - (intOf x).toNat)
      case atStart => exact ⟨0, 0, rfl, hb, HR.out, rfl, fun h => by omega, by omega⟩
      case round =>
        clear hb
        obtain ⟨j, o, rfl, hb, hr, HO⟩ := hrel
        by_cases hlt : o < k
        · obtain ⟨d1, d2, d3⟩ := HD.out
          have hO := HO.out.1
          obtain ⟨X, hX⟩ : ∃ X, (D.drop (16 * j)).take 16 = X := ⟨_, rfl⟩
          obtain ⟨z, hz⟩ : ∃ z, X.length = z := ⟨_, rfl⟩
          have hXs : Small X := by rw [← hX]; exact (d3.drop _).take _
          have hA := fewsL_lenTo t j D (by omega)
          have hXl : X.length = min 16 (k - o) := by rw [← hX, List.length_take, List.length_drop, d1, hO]
          have hsplit : D.drop (16 * j) = X ++ D.drop (16 * (j + 1)) := by
            rw [← hX, show 16 * (j + 1) = 16 * j + 16 by omega, ← List.drop_drop, List.take_append_drop]
          have hsn : fewsL t (j + 1) D = fewsL t j D ++ fewB t X := by rw [fewsL_snoc, hX]
          obtain ⟨A, hAe⟩ : ∃ A, fewsL t j D = A := ⟨_, rfl⟩
          obtain ⟨C, hCe⟩ : ∃ C, D.drop (16 * (j + 1)) = C := ⟨_, rfl⟩
          rw [hsplit, hAe, hCe] at hr
          rw [hAe] at hA hsn
          obtain ⟨g, rfl, hgB, _⟩ := hr.some_of (by rw [List.length_append, List.length_append]; omega)
          obtain ⟨E, hE⟩ : ∃ E, o + z = E := ⟨_, rfl⟩
          have HZ : Hid (z = min 16 (k - o) ∧ o < k ∧ o = 16 * j ∧ A.length = o ∧ X.length = z ∧ Small X ∧ w'.heap.size ≤ g ∧ (fewsL t (j + 1) D ++ D.drop (16 * (j + 1)) = A ++ (fewB t X ++ C)) ∧ E = o + z ∧ 0 < z ∧ E ≤ k) :=
            ⟨by omega, hlt, hO, by omega, hz, hXs, hgB, by rw [hsn, hCe, List.append_assoc], hE.symm, by omega, by omega⟩
          have hs3 : (o : Int) < k := by omega
          have HE1 : Hid ((k : Int) < (o : Int) + 16 → (E : Int) = k) := fun h => by omega
          have HE2 : Hid (¬ ((k : Int) < (o : Int) + 16) → (E : Int) = (o : Int) + 16) := fun h => by omega
          have HRR : Hid (NewRow 2 w'.heap.size wr (some ⟨g, 0, none⟩) (A ++ (X ++ C))) := hr
          clear d1 d2 d3 hO hX hz hXs hA hXl hsplit hsn hAe hCe hgB hE hlt hr HO
          by_cases hc : (k : Int) < (o : Int) + 16
          · have HEE : Hid (E = k) := by have := HE1.out hc; show _ = _; omega
            go_wp2
            go_loopg [] (pulsesN X).toNat (fun gk W => ∃ q : Nat, Below w'.heap.size w' W ∧ NewRow 2 w'.heap.size W (some ⟨g, 0, none⟩) (A ++ (decK q X ++ C)) ∧ Hid ((q : Int) ≤ pulsesN X ∧ (q = 0 ∨ (q : Int) ≤ pulsesN X - t) ∧ gk = (pulsesN X).toNat - q))
            case atStart => exact ⟨0, hb, HRR.out, by have := pulsesN_nonneg X; omega, .inl rfl, by omega⟩
            case round =>
              clear hb
              obtain ⟨q, hb, hr, HQ⟩ := hrel
              obtain ⟨Y, hY⟩ : ∃ Y, decK q X = Y := ⟨_, rfl⟩
              obtain ⟨z1, z2, z3, z4, z5, z6, z7, z8, z9, z10, z11⟩ := HZ.out
              have hYl : Y.length = z := by rw [← hY, decK_len, z5]
              have hYs : ∀ i : Nat, absI (Y[i]?.getD 0) ≤ 16 := fun i => by rw [← hY]; exact decK_small q X z6 HQ.out.1 i
              have hYp : pulsesN Y = pulsesN X - q := by rw [← hY]; exact pulsesN_decK q X HQ.out.1
              rw [hY] at hr
              have HY : Hid (decK q X = Y ∧ Y.length = z ∧ (∀ i : Nat, absI (Y[i]?.getD 0) ≤ 16) ∧ pulsesN Y = pulsesN X - q) := ⟨hY, hYl, hYs, hYp⟩
              have HR1 : Hid (NewRow 2 w'.heap.size wr (some ⟨g, 0, none⟩) (A ++ (Y ++ C))) := hr
              clear z1 z2 z3 z4 z5 z6 z7 z8 z9 z10 z11 hY hYl hYs hYp hr
              go_wp2
              go_loopw [10, 11, 12] (fun s11 s12 s13 W => ∃ (c kk ww : Nat) (s : Int), c ≤ z ∧ s11 = .int .i64 s ∧ s12 = .int .i64 ww ∧ s13 = .int .i64 kk ∧ NewRow 2 w'.heap.size W (some ⟨g, 0, none⟩) (A ++ (Y ++ C)) ∧ Below w'.heap.size w' W ∧ Hid (kk = o + c ∧ ww = o + topN Y c ∧ s = pulsesN (Y.take c) ∧ 0 ≤ s ∧ s ≤ 16 * c)) (fun _ _ x _ => E - (intOf x).toNat)
              case atStart => exact ⟨0, o, o, 0, Nat.zero_le _, rfl, rfl, rfl, HR1.out, hb, rfl, rfl, rfl, by omega, by omega⟩
              case round =>
                clear hb
                obtain ⟨c, kk, ww, s, hc, rfl, rfl, rfl, hr, hb, HC⟩ := hrel
                obtain ⟨c1, c2, c3, c4, c5⟩ := HC.out
                obtain ⟨_, z2, z3, z4, _, _, _, _, z9, _, z11⟩ := HZ.out
                have y2 := HY.out.2.1
                by_cases hlc : c < z
                · have htl := topN_le Y c
                  have hcx := hr.cellAt (seg_len A Y C (j := c) (by omega))
                  rw [seg_at A Y C (by omega), z4, ← c1] at hcx
                  have hcy := hr.cellAt (seg_len A Y C (j := topN Y c) (by omega))
                  rw [seg_at A Y C (by omega), z4, ← c2] at hcy
                  have hstep := pulsesN_step (zs := Y) (k := c) (by omega)
                  have hx16 := HY.out.2.2.1 c
                  have hy16 := HY.out.2.2.1 (topN Y c)
                  have htop : topN Y (c + 1) = if absI (Y[topN Y c]?.getD 0) ≤ absI (Y[c]?.getD 0) then c else topN Y c := rfl
                  generalize Y[topN Y c]?.getD 0 = y at hcy hy16 htop
                  generalize Y[c]?.getD 0 = x at hcx hx16 hstep htop
                  obtain ⟨ax, hax⟩ : ∃ v, absI x = v := ⟨_, rfl⟩
                  obtain ⟨ay, hay⟩ : ∃ v, absI y = v := ⟨_, rfl⟩
                  have hxr : -16 ≤ x ∧ x ≤ 16 := by unfold absI at hx16; split at hx16 <;> omega
                  have hyr : -16 ≤ y ∧ y ≤ 16 := by unfold absI at hy16; split at hy16 <;> omega
                  have hx0 := absI_nonneg x
                  rw [hax] at hx16 hstep htop hx0
                  rw [hay] at htop
                  have HU : Hid (∀ W, Calls Try.prog 43 #[.int .i64 x] W fun e' w' => e' = .returned (.int .i64 ax) ∧ w' = W) := fun W => by
                    have := rsize_any x W (by omega) (by omega)
                    rw [hax] at this
                    exact this
                  have HV : Hid (∀ W, Calls Try.prog 43 #[.int .i64 y] W fun e' w' => e' = .returned (.int .i64 ay) ∧ w' = W) := fun W => by
                    have := rsize_any y W (by omega) (by omega)
                    rw [hay] at this
                    exact this
                  have hkE : (kk : Int) < k := by have := HEE.out; omega
                  have hkk : (kk : Int) < k := by omega
                  have hwk : (ww : Int) < k := by have := HEE.out; omega
                  have hkk0 : kk < k := by omega
                  have hwk0 : ww < k := by omega
                  have hs0 : 0 ≤ s := c4
                  have hs1 : s ≤ 256 := by omega
                  have HNN : Hid (kk + 1 = o + (c + 1) ∧ s + ax = pulsesN (Y.take (c + 1)) ∧ 0 ≤ s + ax ∧ s + ax ≤ 16 * (c + 1 : Nat) ∧ c + 1 ≤ z ∧ E - (kk + 1) < E - kk) := ⟨by omega, by rw [hstep, c3], by omega, by omega, by omega, by omega⟩
                  have HTP : Hid (topN Y (c + 1) = if ay ≤ ax then c else topN Y c) := htop
                  have HCC : Hid (kk = o + c ∧ ww = o + topN Y c) := ⟨c1, c2⟩
                  clear c1 c2 c3 c4 c5 z2 z3 z4 z9 z11 y2 htl hstep htop hax hay hxr hyr hy16 HC hc hlc
                  by_cases hge : ay ≤ ax
                  · have HW : Hid (topN Y (c + 1) = c) := HTP.out.trans (if_pos hge)
                    go_wp2_with (go_at_call 43; refine (HU.out _).mono ?_; rintro e' w2 ⟨rfl, rfl⟩)
                    go_quiet (first | (go_at_call 43; exact Calls.quiet_of_same (HU.out _)) | (go_at_call 43; exact Calls.quiet_of_same (HV.out _)))
                    go_wp2
                    go_roundw
                    case rel => exact ⟨c + 1, kk + 1, kk, s + ax, HNN.out.2.2.2.2.1, by go_num, rfl, by go_num, hr.drewN _, below_drewN hb _, HNN.out.1, by rw [HW.out]; exact HCC.out.1, HNN.out.2.1, HNN.out.2.2.1, HNN.out.2.2.2.1⟩
                    case measure =>
                      show E - ((kk : Int) + 1).toNat < E - (kk : Int).toNat
                      rw [show ((kk : Int) + 1).toNat = kk + 1 by omega, Int.toNat_natCast]
                      exact HNN.out.2.2.2.2.2
                  · have HW : Hid (topN Y (c + 1) = topN Y c) := HTP.out.trans (if_neg hge)
                    go_wp2_with (go_at_call 43; refine (HU.out _).mono ?_; rintro e' w2 ⟨rfl, rfl⟩)
                    go_quiet (first | (go_at_call 43; exact Calls.quiet_of_same (HU.out _)) | (go_at_call 43; exact Calls.quiet_of_same (HV.out _)))
                    go_wp2
                    go_roundw
                    case rel => exact ⟨c + 1, kk + 1, ww, s + ax, HNN.out.2.2.2.2.1, by go_num, rfl, by go_num, hr.drewN _, below_drewN hb _, HNN.out.1, by rw [HW.out]; exact HCC.out.2, HNN.out.2.1, HNN.out.2.2.1, HNN.out.2.2.2.1⟩
                    case measure =>
                      show E - ((kk : Int) + 1).toNat < E - (kk : Int).toNat
                      rw [show ((kk : Int) + 1).toNat = kk + 1 by omega, Int.toNat_natCast]
                      exact HNN.out.2.2.2.2.2
                · obtain rfl : c = z := by omega
                  have hkE : ¬ ((kk : Int) < k) := by have := HEE.out; omega
                  rw [List.take_of_length_le (by omega)] at c3
                  have hr0 := HT.out.2.1
                  by_cases hle : s ≤ t
                  · have HFB : Hid (fewsL t (j + 1) D ++ D.drop (16 * (j + 1)) = A ++ (Y ++ C)) := by
                      show _ = _
                      rw [HZ.out.2.2.2.2.2.2.2.1]
                      have hq : q = (pulsesN X - t).toNat := by
                        have := HQ.out; have := HY.out.2.2.2; omega
                      have : fewB t X = Y := by show decK _ X = _; rw [← hq]; exact HY.out.1
                      rw [this]
                    clear c1 c2 c3 c4 c5 z2 z3 z4 z9 z11 y2 HC hc hlc
                    go_wp2
                    go_roundw
                    case rel => exact ⟨j + 1, o + 16, by go_num, hb, by rw [HFB.out]; exact hr, by have := HZ.out; omega, fun h => by have := HZ.out; omega, by have := HZ.out; omega⟩
                    case measure => simp [intOf]; have := HZ.out; omega
                  · have htl := topN_lt Y c (by have := HZ.out.2.2.2.2.2.2.2.2.2.1; omega)
                    have hcy := hr.cellAt (seg_len A Y C (j := topN Y c) (by omega))
                    rw [seg_at A Y C (by omega), z4, ← c2] at hcy
                    have hfy := hr.frozenAt (by have := seg_len A Y C (j := topN Y c) (by omega); omega) ww
                    have hy16 := HY.out.2.2.1 (topN Y c)
                    have hnx : ∀ v : Int, decV (Y[topN Y c]?.getD 0) = v → decK (q + 1) X = Y.set (topN Y c) v := fun v hv => by
                      rw [decK_next, HY.out.1, HZ.out.2.2.2.2.1, hv]
                    generalize hyv : Y[topN Y c]?.getD 0 = y at hcy hy16 hnx
                    have hyr : -16 ≤ y ∧ y ≤ 16 := by unfold absI at hy16; split at hy16 <;> omega
                    have HST : Hid (∀ v, decV y = v → NewRow 2 w'.heap.size (wr.setCell ⟨g, ww, none⟩ (.int .i64 v)) (some ⟨g, 0, none⟩) (A ++ (decK (q + 1) X ++ C))) := fun v hv => by
                      have := hr.set (A.length + topN Y c) v
                      rw [seg_set A Y C (by omega), z4, ← c2, ← hnx v hv] at this
                      exact this
                    have HNQ : Hid (((q + 1 : Nat) : Int) ≤ pulsesN X ∧ (q + 1 = 0 ∨ ((q + 1 : Nat) : Int) ≤ pulsesN X - t) ∧ gk - 1 = (pulsesN X).toNat - (q + 1) ∧ gk - 1 < gk) := by
                      have := HQ.out; have := HY.out.2.2.2; refine ⟨by omega, .inr (by omega), by omega, by omega⟩
                    have hwk : (ww : Int) < k := by omega
                    have hwk0 : ww < k := by omega
                    have hgB := HZ.out.2.2.2.2.2.2.1
                    clear c1 c2 c3 c4 c5 z2 z3 z4 z9 z11 y2 HC hc hlc htl hy16 hnx hyv
                    by_cases hpos : 0 < y
                    · have hdv : decV y = y - 1 := if_pos hpos
                      have HS1 := HST.out (y - 1) hdv
                      have hwy : wrap64 (y - 1) = y - 1 := wrap_n (by omega) (by omega)
                      have HS2 : Hid (NewRow 2 w'.heap.size (wr.setCell ⟨g, ww, none⟩ (.int .i64 (y - 1))) (some ⟨g, 0, none⟩) (A ++ (decK (q + 1) X ++ C)) ∧ w'.heap.size ≤ g) := ⟨HS1, hgB⟩
                      clear HS1 hdv hyr hgB
                      go_wp2
                      go_roundg (gk - 1)
                      case measure => exact HNQ.out.2.2.2
                      case rel => exact ⟨q + 1, hb.setCell HS2.out.2 _, HS2.out.1, HNQ.out.1, HNQ.out.2.1, HNQ.out.2.2.1⟩
                    · have hdv : decV y = y + 1 := if_neg hpos
                      have HS1 := HST.out (y + 1) hdv
                      have hwy : wrap64 (y + 1) = y + 1 := wrap_n (by omega) (by omega)
                      have HS2 : Hid (NewRow 2 w'.heap.size (wr.setCell ⟨g, ww, none⟩ (.int .i64 (y + 1))) (some ⟨g, 0, none⟩) (A ++ (decK (q + 1) X ++ C)) ∧ w'.heap.size ≤ g) := ⟨HS1, hgB⟩
                      clear HS1 hdv hyr hgB
                      go_wp2
                      go_roundg (gk - 1)
                      case measure => exact HNQ.out.2.2.2
                      case rel => exact ⟨q + 1, hb.setCell HS2.out.2 _, HS2.out.1, HNQ.out.1, HNQ.out.2.1, HNQ.out.2.2.1⟩
          · have HEE : Hid (E = o + 16) := by have := HE2.out hc; show _ = _; omega
            go_wp2
            go_loopg [] (pulsesN X).toNat (fun gk W => ∃ q : Nat, Below w'.heap.size w' W ∧ NewRow 2 w'.heap.size W (some ⟨g, 0, none⟩) (A ++ (decK q X ++ C)) ∧ Hid ((q : Int) ≤ pulsesN X ∧ (q = 0 ∨ (q : Int) ≤ pulsesN X - t) ∧ gk = (pulsesN X).toNat - q))
            case atStart => exact ⟨0, hb, HRR.out, by have := pulsesN_nonneg X; omega, .inl rfl, by omega⟩
            case round =>
              clear hb
              obtain ⟨q, hb, hr, HQ⟩ := hrel
              obtain ⟨Y, hY⟩ : ∃ Y, decK q X = Y := ⟨_, rfl⟩
              obtain ⟨z1, z2, z3, z4, z5, z6, z7, z8, z9, z10, z11⟩ := HZ.out
              have hYl : Y.length = z := by rw [← hY, decK_len, z5]
              have hYs : ∀ i : Nat, absI (Y[i]?.getD 0) ≤ 16 := fun i => by rw [← hY]; exact decK_small q X z6 HQ.out.1 i
              have hYp : pulsesN Y = pulsesN X - q := by rw [← hY]; exact pulsesN_decK q X HQ.out.1
              rw [hY] at hr
              have HY : Hid (decK q X = Y ∧ Y.length = z ∧ (∀ i : Nat, absI (Y[i]?.getD 0) ≤ 16) ∧ pulsesN Y = pulsesN X - q) := ⟨hY, hYl, hYs, hYp⟩
              have HR1 : Hid (NewRow 2 w'.heap.size wr (some ⟨g, 0, none⟩) (A ++ (Y ++ C))) := hr
              clear z1 z2 z3 z4 z5 z6 z7 z8 z9 z10 z11 hY hYl hYs hYp hr
              go_wp2
              go_loopw [10, 11, 12] (fun s11 s12 s13 W => ∃ (c kk ww : Nat) (s : Int), c ≤ z ∧ s11 = .int .i64 s ∧ s12 = .int .i64 ww ∧ s13 = .int .i64 kk ∧ NewRow 2 w'.heap.size W (some ⟨g, 0, none⟩) (A ++ (Y ++ C)) ∧ Below w'.heap.size w' W ∧ Hid (kk = o + c ∧ ww = o + topN Y c ∧ s = pulsesN (Y.take c) ∧ 0 ≤ s ∧ s ≤ 16 * c)) (fun _ _ x _ => E - (intOf x).toNat)
              case atStart => exact ⟨0, o, o, 0, Nat.zero_le _, rfl, rfl, rfl, HR1.out, hb, rfl, rfl, rfl, by omega, by omega⟩
              case round =>
                clear hb
                obtain ⟨c, kk, ww, s, hc, rfl, rfl, rfl, hr, hb, HC⟩ := hrel
                obtain ⟨c1, c2, c3, c4, c5⟩ := HC.out
                obtain ⟨_, z2, z3, z4, _, _, _, _, z9, _, z11⟩ := HZ.out
                have y2 := HY.out.2.1
                by_cases hlc : c < z
                · have htl := topN_le Y c
                  have hcx := hr.cellAt (seg_len A Y C (j := c) (by omega))
                  rw [seg_at A Y C (by omega), z4, ← c1] at hcx
                  have hcy := hr.cellAt (seg_len A Y C (j := topN Y c) (by omega))
                  rw [seg_at A Y C (by omega), z4, ← c2] at hcy
                  have hstep := pulsesN_step (zs := Y) (k := c) (by omega)
                  have hx16 := HY.out.2.2.1 c
                  have hy16 := HY.out.2.2.1 (topN Y c)
                  have htop : topN Y (c + 1) = if absI (Y[topN Y c]?.getD 0) ≤ absI (Y[c]?.getD 0) then c else topN Y c := rfl
                  generalize Y[topN Y c]?.getD 0 = y at hcy hy16 htop
                  generalize Y[c]?.getD 0 = x at hcx hx16 hstep htop
                  obtain ⟨ax, hax⟩ : ∃ v, absI x = v := ⟨_, rfl⟩
                  obtain ⟨ay, hay⟩ : ∃ v, absI y = v := ⟨_, rfl⟩
                  have hxr : -16 ≤ x ∧ x ≤ 16 := by unfold absI at hx16; split at hx16 <;> omega
                  have hyr : -16 ≤ y ∧ y ≤ 16 := by unfold absI at hy16; split at hy16 <;> omega
                  have hx0 := absI_nonneg x
                  rw [hax] at hx16 hstep htop hx0
                  rw [hay] at htop
                  have HU : Hid (∀ W, Calls Try.prog 43 #[.int .i64 x] W fun e' w' => e' = .returned (.int .i64 ax) ∧ w' = W) := fun W => by
                    have := rsize_any x W (by omega) (by omega)
                    rw [hax] at this
                    exact this
                  have HV : Hid (∀ W, Calls Try.prog 43 #[.int .i64 y] W fun e' w' => e' = .returned (.int .i64 ay) ∧ w' = W) := fun W => by
                    have := rsize_any y W (by omega) (by omega)
                    rw [hay] at this
                    exact this
                  have hkE : (kk : Int) < (o : Int) + 16 := by have := HEE.out; omega
                  have hkk : (kk : Int) < k := by omega
                  have hwk : (ww : Int) < k := by omega
                  have hkk0 : kk < k := by omega
                  have hwk0 : ww < k := by omega
                  have hs0 : 0 ≤ s := c4
                  have hs1 : s ≤ 256 := by omega
                  have HNN : Hid (kk + 1 = o + (c + 1) ∧ s + ax = pulsesN (Y.take (c + 1)) ∧ 0 ≤ s + ax ∧ s + ax ≤ 16 * (c + 1 : Nat) ∧ c + 1 ≤ z ∧ E - (kk + 1) < E - kk) := ⟨by omega, by rw [hstep, c3], by omega, by omega, by omega, by omega⟩
                  have HTP : Hid (topN Y (c + 1) = if ay ≤ ax then c else topN Y c) := htop
                  have HCC : Hid (kk = o + c ∧ ww = o + topN Y c) := ⟨c1, c2⟩
                  clear c1 c2 c3 c4 c5 z2 z3 z4 z9 z11 y2 htl hstep htop hax hay hxr hyr hy16 HC hc hlc
                  by_cases hge : ay ≤ ax
                  · have HW : Hid (topN Y (c + 1) = c) := HTP.out.trans (if_pos hge)
                    go_wp2_with (go_at_call 43; refine (HU.out _).mono ?_; rintro e' w2 ⟨rfl, rfl⟩)
                    go_quiet (first | (go_at_call 43; exact Calls.quiet_of_same (HU.out _)) | (go_at_call 43; exact Calls.quiet_of_same (HV.out _)))
                    go_wp2
                    go_roundw
                    case rel => exact ⟨c + 1, kk + 1, kk, s + ax, HNN.out.2.2.2.2.1, by go_num, rfl, by go_num, hr.drewN _, below_drewN hb _, HNN.out.1, by rw [HW.out]; exact HCC.out.1, HNN.out.2.1, HNN.out.2.2.1, HNN.out.2.2.2.1⟩
                    case measure =>
                      show E - ((kk : Int) + 1).toNat < E - (kk : Int).toNat
                      rw [show ((kk : Int) + 1).toNat = kk + 1 by omega, Int.toNat_natCast]
                      exact HNN.out.2.2.2.2.2
                  · have HW : Hid (topN Y (c + 1) = topN Y c) := HTP.out.trans (if_neg hge)
                    go_wp2_with (go_at_call 43; refine (HU.out _).mono ?_; rintro e' w2 ⟨rfl, rfl⟩)
                    go_quiet (first | (go_at_call 43; exact Calls.quiet_of_same (HU.out _)) | (go_at_call 43; exact Calls.quiet_of_same (HV.out _)))
                    go_wp2
                    go_roundw
                    case rel => exact ⟨c + 1, kk + 1, ww, s + ax, HNN.out.2.2.2.2.1, by go_num, rfl, by go_num, hr.drewN _, below_drewN hb _, HNN.out.1, by rw [HW.out]; exact HCC.out.2, HNN.out.2.1, HNN.out.2.2.1, HNN.out.2.2.2.1⟩
                    case measure =>
                      show E - ((kk : Int) + 1).toNat < E - (kk : Int).toNat
                      rw [show ((kk : Int) + 1).toNat = kk + 1 by omega, Int.toNat_natCast]
                      exact HNN.out.2.2.2.2.2
                · obtain rfl : c = z := by omega
                  have hkE : ¬ ((kk : Int) < (o : Int) + 16) := by have := HEE.out; omega
                  rw [List.take_of_length_le (by omega)] at c3
                  have hr0 := HT.out.2.1
                  by_cases hle : s ≤ t
                  · have HFB : Hid (fewsL t (j + 1) D ++ D.drop (16 * (j + 1)) = A ++ (Y ++ C)) := by
                      show _ = _
                      rw [HZ.out.2.2.2.2.2.2.2.1]
                      have hq : q = (pulsesN X - t).toNat := by
                        have := HQ.out; have := HY.out.2.2.2; omega
                      have : fewB t X = Y := by show decK _ X = _; rw [← hq]; exact HY.out.1
                      rw [this]
                    clear c1 c2 c3 c4 c5 z2 z3 z4 z9 z11 y2 HC hc hlc
                    go_wp2
                    go_roundw
                    case rel => exact ⟨j + 1, o + 16, by go_num, hb, by rw [HFB.out]; exact hr, by have := HZ.out; omega, fun h => by have := HZ.out; omega, by have := HZ.out; omega⟩
                    case measure => simp [intOf]; have := HZ.out; omega
                  · have htl := topN_lt Y c (by have := HZ.out.2.2.2.2.2.2.2.2.2.1; omega)
                    have hcy := hr.cellAt (seg_len A Y C (j := topN Y c) (by omega))
                    rw [seg_at A Y C (by omega), z4, ← c2] at hcy
                    have hfy := hr.frozenAt (by have := seg_len A Y C (j := topN Y c) (by omega); omega) ww
                    have hy16 := HY.out.2.2.1 (topN Y c)
                    have hnx : ∀ v : Int, decV (Y[topN Y c]?.getD 0) = v → decK (q + 1) X = Y.set (topN Y c) v := fun v hv => by
                      rw [decK_next, HY.out.1, HZ.out.2.2.2.2.1, hv]
                    generalize hyv : Y[topN Y c]?.getD 0 = y at hcy hy16 hnx
                    have hyr : -16 ≤ y ∧ y ≤ 16 := by unfold absI at hy16; split at hy16 <;> omega
                    have HST : Hid (∀ v, decV y = v → NewRow 2 w'.heap.size (wr.setCell ⟨g, ww, none⟩ (.int .i64 v)) (some ⟨g, 0, none⟩) (A ++ (decK (q + 1) X ++ C))) := fun v hv => by
                      have := hr.set (A.length + topN Y c) v
                      rw [seg_set A Y C (by omega), z4, ← c2, ← hnx v hv] at this
                      exact this
                    have HNQ : Hid (((q + 1 : Nat) : Int) ≤ pulsesN X ∧ (q + 1 = 0 ∨ ((q + 1 : Nat) : Int) ≤ pulsesN X - t) ∧ gk - 1 = (pulsesN X).toNat - (q + 1) ∧ gk - 1 < gk) := by
                      have := HQ.out; have := HY.out.2.2.2; refine ⟨by omega, .inr (by omega), by omega, by omega⟩
                    have hwk : (ww : Int) < k := by omega
                    have hwk0 : ww < k := by omega
                    have hgB := HZ.out.2.2.2.2.2.2.1
                    clear c1 c2 c3 c4 c5 z2 z3 z4 z9 z11 y2 HC hc hlc htl hy16 hnx hyv
                    by_cases hpos : 0 < y
                    · have hdv : decV y = y - 1 := if_pos hpos
                      have HS1 := HST.out (y - 1) hdv
                      have hwy : wrap64 (y - 1) = y - 1 := wrap_n (by omega) (by omega)
                      have HS2 : Hid (NewRow 2 w'.heap.size (wr.setCell ⟨g, ww, none⟩ (.int .i64 (y - 1))) (some ⟨g, 0, none⟩) (A ++ (decK (q + 1) X ++ C)) ∧ w'.heap.size ≤ g) := ⟨HS1, hgB⟩
                      clear HS1 hdv hyr hgB
                      go_wp2
                      go_roundg (gk - 1)
                      case measure => exact HNQ.out.2.2.2
                      case rel => exact ⟨q + 1, hb.setCell HS2.out.2 _, HS2.out.1, HNQ.out.1, HNQ.out.2.1, HNQ.out.2.2.1⟩
                    · have hdv : decV y = y + 1 := if_neg hpos
                      have HS1 := HST.out (y + 1) hdv
                      have hwy : wrap64 (y + 1) = y + 1 := wrap_n (by omega) (by omega)
                      have HS2 : Hid (NewRow 2 w'.heap.size (wr.setCell ⟨g, ww, none⟩ (.int .i64 (y + 1))) (some ⟨g, 0, none⟩) (A ++ (decK (q + 1) X ++ C)) ∧ w'.heap.size ≤ g) := ⟨HS1, hgB⟩
                      clear HS1 hdv hyr hgB
                      go_wp2
                      go_roundg (gk - 1)
                      case measure => exact HNQ.out.2.2.2
                      case rel => exact ⟨q + 1, hb.setCell HS2.out.2 _, HS2.out.1, HNQ.out.1, HNQ.out.2.1, HNQ.out.2.2.1⟩
        · have hs1 : ¬ ((o : Int) < k) := by omega
          have HJ : Hid (j = (k + 15) / 16 ∧ k ≤ 16 * j) := ⟨HO.out.2.1 (by omega), by have := HO.out.1; omega⟩
          have HD1 : Hid (D.length = k) := HD.out.1
          clear HO
          go_wp2
          go_ret
          rw [List.drop_eq_nil_of_le (by have := HJ.out.2; have := HD1.out; omega), List.append_nil, HJ.out.1] at hr
          rw [HF.out]
          first | exact ⟨_, _, rfl, hr, hb⟩ | exact ⟨_, rfl, hr, hb⟩ | exact ⟨_, ⟨_, rfl⟩, hr, hb⟩

end Go.Proofs.Ytdbgcbbfnjoebaa
