/- The law PitchAll answers true: all lags asked are told, each once, with its score; the first is the best. -/
import Derived.Test.YtamiokleolfnoaaPitchP
import Derived.Test.YtamiokleolfnoaaActs
import Derived.Deep.RegionHeld3
namespace Go.Proofs.Ytamiokleolfnoaa
open Go.RowKit Pit

/-- Each lag stands at one place. -/
theorem allL_place {zs : List Int} {a : Int} {k : Nat} (ha : 1 ≤ a) (hk : a + k ≤ 1000) {z : Int} (h1 : a ≤ z) (h2 : z < a + k) : ∃ I, I < k ∧ (allL zs a k)[I]?.getD (0, 0) = (z, scoreI zs z) ∧ ∀ j, j < k → ((allL zs a k)[j]?.getD (0, 0)).1 = z → j = I := by
  have hl := allL_len zs a k
  obtain ⟨I, hI, he⟩ := List.getElem_of_mem ((mem_allL zs a k (z, scoreI zs z)).2 ⟨⟨h1, h2⟩, rfl⟩)
  refine ⟨I, by omega, by rw [List.getElem?_eq_getElem hI]; exact he, fun j hj hz => ?_⟩
  have hj2 : j < (allL zs a k).length := by omega
  rw [List.getElem?_eq_getElem hj2] at hz
  have hz : (allL zs a k)[j].1 = z := hz
  have hsc := ((mem_allL zs a k _).1 (List.getElem_mem hj2)).2
  refine Desc.same keyL (allL_desc zs ha hk) hj2 hI ?_
  rw [he]
  unfold keyL
  rw [hsc, hz]
theorem allL_max {zs : List Int} {a : Int} {k : Nat} (ha : 1 ≤ a) (hk : a + k ≤ 1000) {j : Nat} (hj : j < k) : ((allL zs a k)[j]?.getD (0, 0)).2 ≤ ((allL zs a k)[0]?.getD (0, 0)).2 := by
  have hl := allL_len zs a k
  have hj2 : j < (allL zs a k).length := by omega
  obtain ⟨q, hq, hle⟩ := allL_first zs ha hk (List.getElem_mem hj2)
  rw [List.getElem?_eq_getElem hj2, hq]
  exact hle

set_option maxRecDepth 100000 in
set_option maxHeartbeats 3200000 in
theorem pitchAll.walk (x : Option Addr) (n cap : Nat) (zq : List Int) (a M : Int) (w : World) (hq : IsRow .i64 w x n cap zq) (_ : (Lit.int .i64 a).wf = true) (_ : (Lit.int .i64 M).wf = true) :
    Calls Try.prog 7 #[.slice x n cap, .int .i64 a, .int .i64 M] w fun e w' => e = .returned (.bool true) ∧ Below w.heap.size w w' := by
  obtain ⟨hz, hm, _⟩ := Zs.of_isRow hq
  clear hq
  generalize zq.take n = zs at hz
  have HZ : Hid (∀ W, Below w.heap.size w W → Zs W x n zs) := fun W hW => hz.keep hW
  have HL : Hid (zs.length = n ∧ n ≤ maxLen) := ⟨hz.len, hm⟩
  have hm2 : n ≤ 9223372036854775807 := by simp only [maxLen] at hm; omega
  have hb := Below.refl w.heap.size w
  clear hz hm
  by_cases hg : goodLagsB n a M = true
  · have hgd := of_decide_eq_true hg
    obtain ⟨a, rfl⟩ : ∃ z : Nat, a = (z : Int) := ⟨a.toNat, by omega⟩
    obtain ⟨M, rfl⟩ : ∃ z : Nat, M = (z : Int) := ⟨M.toNat, by omega⟩
    obtain ⟨d, hd⟩ : ∃ d, a + d = M := ⟨M - a, by omega⟩
    have HG : Hid (goodLagsB n a M = true ∧ a + d = M ∧ 1 ≤ a ∧ M ≤ 480) := ⟨hg, hd, by omega, by omega⟩
    have hMI : (M : Int) ≤ 480 := by omega
    have haI : (1 : Int) ≤ (a : Int) := by omega
    have haM : (a : Int) ≤ (M : Int) := by omega
    obtain ⟨c, hc⟩ : ∃ c, min 32 (d + 1) = c := ⟨_, rfl⟩
    have HC : Hid (min 32 (d + 1) = c) := hc
    by_cases hd31 : 31 < d
    · have hdI : (31 : Int) < (M : Int) - (a : Int) := by omega
      clear hgd hg hd hc hd31
      go_enter Try.func7, Try.ntmps7
      go_wp2_with (first
        | (go_at_call 8; refine (awake_any _).mono ?_; rintro e w1 ⟨rfl, hb1⟩; replace hb := hb.trans (hb1.mono hb.size); clear hb1)
        | (go_at_call 9; go_loud (refine (search_ints x n cap zs a M 32 d _ _ _ rfl rfl rfl _ (HZ.out _ hb) HG.out.1 (by decide) (by decide) HG.out.2.1).mono ?_; rw [HC.out]; rintro e w6 ⟨r, rfl, hr6, hb6⟩; replace hb := hb.trans (hb6.mono hb.size); clear hb6)))
      go_ret
      exact ⟨rfl, hb⟩
    · obtain rfl : c = d + 1 := by omega
      have hdI : ((31 : Int) < (M : Int) - (a : Int)) = False := eq_false (by omega)
      have hdn : (M : Int) - (a : Int) = (d : Int) := by omega
      have hd31I : (d : Int) ≤ 31 := by omega
      have HD : Hid (d ≤ 31) := by show _ ≤ _; omega
      obtain ⟨A, hA⟩ : ∃ A, allL zs a (d + 1) = A := ⟨_, rfl⟩
      have HTA : Hid (topL zs a 32 (d + 1) = A) := by
        show _ = _
        rw [← hA]
        unfold topL
        exact List.take_of_length_le (by rw [allL_len]; omega)
      have HPL : Hid (∀ q : Nat, a ≤ q → q ≤ M → ∃ I, I < d + 1 ∧ A[I]?.getD (0, 0) = ((q : Int), scoreI zs (q : Int)) ∧ ∀ j, j < d + 1 → (A[j]?.getD (0, 0)).1 = (q : Int) → j = I) := fun q h1 h2 => by
        rw [← hA]
        exact allL_place haI (by omega) (by omega) (by omega)
      have HMX : Hid (∀ j, j < d + 1 → (A[j]?.getD (0, 0)).2 ≤ (A[0]?.getD (0, 0)).2) := fun j hj => by
        rw [← hA]
        exact allL_max haI (by omega) hj
      clear hgd hg hd hc hd31 hA
      go_enter Try.func7, Try.ntmps7
      go_wp2_with (first
        | (go_at_call 8; refine (awake_any _).mono ?_; rintro e w1 ⟨rfl, hb1⟩; replace hb := hb.trans (hb1.mono hb.size); clear hb1)
        | (go_at_call 9; go_loud (refine (search_ints x n cap zs a M 32 d _ _ _ rfl rfl rfl _ (HZ.out _ hb) HG.out.1 (by decide) (by decide) HG.out.2.1).mono ?_; rw [HC.out, HTA.out]; rintro e w6 ⟨r, rfl, hr6, hb6⟩; have HB6 : Hid (Below w.heap.size w w6) := hb.trans (hb6.mono hb.size); clear hb6 hb)))
      have HCE : Hid (∀ W, Below w6.heap.size w6 W → ∀ j, j < d + 1 → W.cell? ⟨r, j * 2, none⟩ = some (.int .i64 (A[j]?.getD (0, 0)).1) ∧ W.cell? ⟨r, j * 2 + 1, none⟩ = some (.int .i64 (A[j]?.getD (0, 0)).2)) := fun W hW j hj => (hr6.below hW).cells hj
      clear hr6
      clear hdn hdI
      go_loopw [9] (fun y W => ∃ t : Nat, t ≤ d + 1 ∧ y = .int .i64 ((a + t : Nat) : Int) ∧ Hid (Below w6.heap.size w6 W)) (fun y _ => M + 1 - (intOf y).toNat)
      case atStart => exact ⟨0, Nat.zero_le _, rfl, Below.refl _ _⟩
      case round =>
        obtain ⟨t, ht, rfl, HW⟩ := hrel
        obtain ⟨q, hq⟩ : ∃ q, a + t = q := ⟨_, rfl⟩
        rw [hq]
        have hGG := HG.out
        by_cases hlt : q ≤ M
        · have hqM : (q : Int) ≤ (M : Int) := by omega
          obtain ⟨I, hI, hAI, hun⟩ := HPL.out q (by omega) hlt
          have HQ : Hid (a + t = q ∧ q ≤ M ∧ t < d + 1 ∧ M ≤ 480 ∧ a + d = M) := ⟨hq, hlt, by omega, by omega, by omega⟩
          have HI : Hid (I < d + 1 ∧ A[I]?.getD (0, 0) = ((q : Int), scoreI zs (q : Int)) ∧ ∀ j, j < d + 1 → (A[j]?.getD (0, 0)).1 = (q : Int) → j = I) := ⟨hI, hAI, hun⟩
          have HW1 : Hid (wrap64 ((q : Int) + 1) = ((q + 1 : Nat) : Int)) := by
            show _ = _
            rw [show (q : Int) + 1 = ((q + 1 : Nat) : Int) by omega]
            exact i64_wrap (by omega) (by omega)
          clear hI hAI hun hq hlt hGG
          go_wp2
          go_loopw [10, 11] (fun cn y W => ∃ j : Nat, j ≤ d + 1 ∧ y = .int .i64 j ∧ cn = .int .i64 (if I < j then 1 else 0) ∧ Hid (Below w6.heap.size w6 W)) (fun _ y _ => d + 1 - (intOf y).toNat)
          case atStart => exact ⟨0, Nat.zero_le _, rfl, by rw [if_neg (Nat.not_lt_zero _)], HW⟩
          case round =>
            clear HW
            obtain ⟨j, hj, rfl, rfl, HW⟩ := hrel
            by_cases hjd : j < d + 1
            · obtain ⟨e0, e1⟩ := HCE.out wr HW.out j hjd
              obtain ⟨f0, f1⟩ := HCE.out wr HW.out 0 (Nat.succ_pos d)
              have hmx := HMX.out j hjd
              have hjI : (j : Int) < (d : Int) + 1 := by omega
              have hd0 : (0 : Int) < (d : Int) + 1 := by omega
              simp only [Nat.zero_mul, Nat.zero_add] at f0 f1
              by_cases hji : j = I
              · have hif : (if I < j then (1 : Int) else 0) = 0 := if_neg (by omega)
                have HIF : Hid ((if I < j + 1 then (1 : Int) else 0) = 1) := if_pos (by omega)
                rw [hif]
                have hAj := HI.out.2.1
                rw [← hji] at hAj
                have hA1 : (A[j]?.getD (0, 0)).1 = (q : Int) := by rw [hAj]
                have hA2 : (A[j]?.getD (0, 0)).2 = scoreI zs (q : Int) := by rw [hAj]
                have HCW : Hid (∀ W, Below wr.heap.size wr W → (W.cell? ⟨r, j * 2, none⟩ = some (.int .i64 (A[j]?.getD (0, 0)).1) ∧ W.cell? ⟨r, j * 2 + 1, none⟩ = some (.int .i64 (A[j]?.getD (0, 0)).2)) ∧ W.cell? ⟨r, 0, none⟩ = some (.int .i64 (A[0]?.getD (0, 0)).1) ∧ W.cell? ⟨r, 1, none⟩ = some (.int .i64 (A[0]?.getD (0, 0)).2)) := fun W hW =>
                  ⟨HCE.out W (HW.out.trans (hW.mono HW.out.size)) j hjd, HCE.out W (HW.out.trans (hW.mono HW.out.size)) 0 (Nat.succ_pos d)⟩
                rw [hA1] at e0 HCW
                obtain ⟨sc, hsc⟩ : ∃ sc, scoreI zs (q : Int) = sc := ⟨_, rfl⟩
                have HSC : Hid (scoreI zs (q : Int) = sc) := hsc
                rw [hA2, hsc] at e1 hmx HCW
                generalize (A[0]?.getD (0, 0)).1 = z1 at *
                generalize (A[0]?.getD (0, 0)).2 = z2 at *
                have hle : decide (z2 < sc) = false := decide_eq_false (by omega)
                have HX7 : Hid (Zs wr x n zs ∧ n ≤ maxLen) := ⟨HZ.out _ (HB6.out.trans (HW.out.mono HB6.out.size)), HL.out.2⟩
                clear hif hji hAj hA1 hA2 hsc hmx
                go_wp2
                go_region_held3 (fun W => (W.cell? ⟨r, j * 2, none⟩ = some (.int .i64 (q : Int)) ∧ W.cell? ⟨r, j * 2 + 1, none⟩ = some (.int .i64 sc)) ∧ W.cell? ⟨r, 0, none⟩ = some (.int .i64 z1) ∧ W.cell? ⟨r, 1, none⟩ = some (.int .i64 z2)) (first | (exact ⟨⟨by assumption, by assumption⟩, by assumption, by assumption⟩) | go_keep) (first
                  | (go_at_call 11; go_loud (refine (Score_any x n cap zs _ _ (by first | exact HX7.out.1.drew | exact HX7.out.1) HX7.out.2).mono ?_; rw [HSC.out]; rintro e w8 ⟨rfl, hb8⟩; have hb9 : Below wr.heap.size wr w8 := (Below.refl wr.heap.size wr).drew.trans hb8; have HB9 : Hid (Below w6.heap.size w6 w8) := HW.out.trans (hb9.mono HW.out.size); obtain ⟨⟨e0, e1⟩, f0, f1⟩ := HCW.out w8 hb9; clear hb8 hb9)))
                all_goals
                  go_wp2
                  go_roundw
                  case rel => exact ⟨j + 1, by omega, by go_num, by rw [HIF.out], HB9⟩
                  case measure => simp [intOf]; omega
              · have hif : (if I < j + 1 then (1 : Int) else 0) = if I < j then 1 else 0 := by
                  by_cases h : I < j
                  · rw [if_pos h, if_pos (by omega)]
                  · rw [if_neg h, if_neg (by omega)]
                have HIF : Hid ((if I < j + 1 then (1 : Int) else 0) = if I < j then 1 else 0) := hif
                have hne : ((A[j]?.getD (0, 0)).1 == (q : Int)) = false := beq_eq_false_iff_ne.2 (fun h => hji (HI.out.2.2 j hjd h))
                have hne2 : ¬ (A[j]?.getD (0, 0)).1 = (q : Int) := fun h => hji (HI.out.2.2 j hjd h)
                generalize (A[j]?.getD (0, 0)).1 = z3 at *
                generalize (A[j]?.getD (0, 0)).2 = z4 at *
                generalize (A[0]?.getD (0, 0)).1 = z1 at *
                generalize (A[0]?.getD (0, 0)).2 = z2 at *
                generalize (if I < j then (1 : Int) else 0) = cn at *
                have hle : decide (z2 < z4) = false := decide_eq_false (by omega)
                clear hif hmx
                go_wp2
                go_quiet (fail)
                go_wp2
                go_roundw
                case rel => exact ⟨j + 1, by omega, by go_num, by rw [HIF.out], below_drewN HW.out _⟩
                case measure => simp [intOf]; omega
            · obtain rfl : j = d + 1 := by omega
              have hif : (if I < d + 1 then (1 : Int) else 0) = 1 := if_pos HI.out.1
              rw [hif]
              go_wp2
              go_roundw
              case rel => exact ⟨t + 1, by have := HQ.out; omega, by rw [← Nat.add_assoc, HQ.out.1]; first | rw [HW1.out] | go_num, HW⟩
              case measure =>
                have := HQ.out
                first
                  | (rw [HW1.out]; simp [intOf]; omega)
                  | (simp [intOf]; omega)
        · have hqM : (M : Int) < (q : Int) := by omega
          go_wp2
          go_ret
          exact ⟨rfl, HB6.out.trans (HW.out.mono HB6.out.size)⟩
  · have HG : Hid (¬ (goodLagsB n a M = true ∧ (1 : Int) ≤ 32 ∧ (32 : Int) ≤ 32)) := fun h => hg h.1
    clear hg
    go_enter Try.func7, Try.ntmps7
    go_wp2_with (first
      | (go_at_call 8; refine (awake_any _).mono ?_; rintro e w1 ⟨rfl, hb1⟩; replace hb := hb.trans (hb1.mono hb.size); clear hb1)
      | (go_at_call 9; go_loud (refine (search_bad x n cap a M 32 hm2 _ HG.out).mono ?_; rintro e w5 ⟨rfl, rfl⟩)))
    go_ret
    exact ⟨rfl, hb⟩

end Go.Proofs.Ytamiokleolfnoaa
