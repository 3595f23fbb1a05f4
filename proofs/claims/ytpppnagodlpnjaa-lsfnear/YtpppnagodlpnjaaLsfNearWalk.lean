/- The law of the index that is found for told frequencies answers true, of any index. -/
import Derived.Test.YtpppnagodlpnjaaLsfU
namespace Go.Proofs.Ytpppnagodlpnjaa
open Go.RowKit

theorem near_none (order one : Int) (a : Option Addr) (n cap : Nat) (zs : List Int) (w : World) (hz : Zs w a n zs) (hn : n ≤ maxLen) (h : ¬ GoodX order one zs) :
    Calls Try.prog 6 #[.int .i64 order, .agg #[.int .i64 one, .slice a n cap]] w fun e w' => e = .returned (.bool true) ∧ Below w.heap.size w w' := by
  have HG : Hid (∀ W, Below w.heap.size w W → Calls Try.prog 15 #[.int .i64 order, .int .i64 one, .slice a n cap] W fun e w' => e = .returned (.bool false) ∧ w' = W) := fun W hb => by
    refine (rgi_any order one a n cap zs W (hz.keep hb) hn).mono ?_
    rintro e w' ⟨bb, rfl, hbb, rfl⟩
    refine ⟨?_, rfl⟩
    cases bb
    · rfl
    · exact absurd (hbb.1 rfl) h
  clear h hz
  have hx := Idx.new w (.int .i64 one) (.slice a n cap)
  have hb := (Below.refl w.heap.size w).alloc (Nat.le_refl _) (.cells #[.int .i64 one, .slice a n cap] 29)
  go_enter Try.func6, Try.ntmps6
  go_wp2_with (first
    | (go_at_call 9; refine (awake_any _).mono ?_; rintro e w1 ⟨rfl, hb1⟩; replace hx := hx.keep hb1; obtain ⟨x0, x1⟩ := hx.cells; replace hb := hb.trans (hb1.mono hb.size); clear hb1)
    | (go_at_call 15; refine (HG.out _ hb).mono ?_; rintro e w2 ⟨rfl, rfl⟩))
  go_ret
  exact ⟨rfl, hb⟩

set_option maxRecDepth 100000 in
set_option maxHeartbeats 4000000 in
theorem near_some (order one : Int) (a : Option Addr) (n cap : Nat) (zs : List Int) (w : World) (hz : Zs w a n zs) (hn : n ≤ maxLen) (h : GoodX order one zs) :
    Calls Try.prog 6 #[.int .i64 order, .agg #[.int .i64 one, .slice a n cap]] w fun e w' => e = .returned (.bool true) ∧ Below w.heap.size w w' := by
  have hno : (n : Int) = order := by rw [← hz.len]; exact h.2.2.2.1
  subst hno
  have h16 : n = 10 ∨ n = 16 := by have := h.1; omega
  have hn2 : 10 ≤ n ∧ n ≤ 16 := by omega
  have hI := h.1
  have HG : Hid (∀ W, Below w.heap.size w W → Calls Try.prog 15 #[.int .i64 (n : Int), .int .i64 one, .slice a n cap] W fun e w' => e = .returned (.bool true) ∧ w' = W) := fun W hb => by
    refine (rgi_any n one a n cap zs W (hz.keep hb) hn).mono ?_
    rintro e w' ⟨bb, rfl, hbb, rfl⟩
    rw [hbb.2 h]
    exact ⟨rfl, rfl⟩
  have hdl : (decodeZ n one zs).length = n := decodeZ_len _ _ _
  have hdi := decodeZ_apart h
  have hdin : ∀ x ∈ decodeZ n one zs, 250 ≤ x ∧ x ≤ 32518 := fun x hx => ⟨by have := apart_low _ 0 hdi.1 x hx; omega, hdi.2 x hx⟩
  have HD : Hid (∀ W, Below w.heap.size w W → Calls Try.prog 17 #[.int .i64 (n : Int), .int .i64 one, .slice a n cap] W fun e w' => ∃ a' c', e = .returned (.slice a' n c') ∧ Zs w' a' n (decodeZ n one zs) ∧ Below W.heap.size W w') := fun W hb => by
    refine (rdecode_good n one a n cap zs W (hz.keep hb) h).mono ?_
    rintro e w' ⟨a', c', rfl, hn, hb⟩
    exact ⟨a', c', rfl, Zs.of_new hn hdl, hb⟩
  clear hz h hdi
  generalize decodeZ (n : Int) one zs = want at *
  have hg1 := found_good hI want
  have hT : (twosZ (n : Int) want).length = n := twosZ_len _ _
  have h1lt := oneZ_lt n want
  have HS : Hid (∀ W a c, Zs W a n want → Calls Try.prog 12 #[.int .i64 (n : Int), .slice a n c] W fun e w' => ∃ a', e = .returned (.tuple #[.agg #[.int .i64 (oneZ n want : Nat), .slice a' n n], .int .i64 0]) ∧ Zs w' a' n (twosZ n want) ∧ Below W.heap.size W w') := fun W a c hz => by
    refine (search_good want a n c W h16 hz).mono ?_
    rintro e w' ⟨a', rfl, hn, hb⟩
    exact ⟨a', rfl, Zs.of_new hn hT, hb⟩
  have HG2 : Hid (∀ W a, Zs W a n (twosZ n want) → Calls Try.prog 13 #[.int .i64 (n : Int), .agg #[.int .i64 (oneZ n want : Nat), .slice a n n]] W fun e w' => e = .returned (.bool true) ∧ Below W.heap.size W w') := fun W a hz => by
    refine (igood_any n _ a n n _ W hz hn).mono ?_
    rintro e w' ⟨bb, rfl, hbb, hb⟩
    rw [hbb.2 hg1]
    exact ⟨rfl, hb⟩
  have hl : (lsfL (n : Int) (oneZ n want : Nat)).length = n := lsfL_len' hI (by omega) (by omega) rfl
  have HL : Hid (∀ W, Calls Try.prog 21 #[.int .i64 (n : Int), .int .i64 (oneZ n want : Nat)] W fun e w' => ∃ a' c', e = .returned (.slice a' n c') ∧ Zs w' a' n (lsfL n (oneZ n want : Nat)) ∧ Below W.heap.size W w') := fun W => by
    refine (rlsf_any n (oneZ n want : Nat) W).mono ?_
    rw [hl]
    rintro e w' ⟨a', c', rfl, hn, hb⟩
    exact ⟨a', c', rfl, Zs.of_new hn hl, hb⟩
  have HV : Hid (∀ k, k < n → (0 ≤ atN (lsfL n (oneZ n want : Nat)) k ∧ atN (lsfL n (oneZ n want : Nat)) k ≤ 32768) ∧ (250 ≤ atN want k ∧ atN want k ≤ 32518) ∧ (-4 ≤ atN (twosZ n want) k ∧ atN (twosZ n want) k ≤ 4) ∧
      (atN (lsfL n (oneZ n want : Nat)) k + stepZ n * atN (twosZ n want) k - atN want k).natAbs ≤ (atN (lsfL n (oneZ n want : Nat)) k - atN want k).natAbs) := fun k hk => by
    have h1 := hdin (atN want k) (by unfold atN; rw [List.getElem?_eq_getElem (by omega)]; exact List.getElem_mem _)
    have h2 := lsfL_in hI (i := (oneZ n want : Nat)) (by omega) (by omega) (atN (lsfL n (oneZ n want : Nat)) k) (by unfold atN; rw [List.getElem?_eq_getElem (by omega)]; exact List.getElem_mem _)
    have h3 := hg1.2.2.2.2 (atN (twosZ n want) k) (by unfold atN; rw [List.getElem?_eq_getElem (by omega)]; exact List.getElem_mem _)
    have h4 := found_near n want (k := k) (by omega)
    have h5 : wantZ want k = atN want k := by
      have h6 : atN want k = want[k]?.getD 0 := rfl
      rw [h6] at h1
      unfold wantZ clZ atN
      rw [if_neg (by omega), if_neg (by omega)]
    have h7 : atN (lsfL n (oneZ n want : Nat)) k = lsfAt n (oneZ n want : Nat) k := lsfL_at hI (by omega) (by omega) (by omega)
    rw [h5] at h4
    unfold rawZ at h4
    rw [h7] at h2 ⊢
    exact ⟨h2, h1, h3, h4⟩
  obtain ⟨U, hU⟩ : ∃ U, stepZ (n : Int) = U := ⟨_, rfl⟩
  have HU : Hid (∀ W, Calls Try.prog 22 #[.int .i64 (n : Int)] W fun e w' => e = .returned (.int .i64 U) ∧ w' = W) := fun W => by subst hU; exact rstep_any n W
  have HP : Hid (∀ v : Int, -4 ≤ v ∧ v ≤ 4 → -1600 ≤ U * v ∧ U * v ≤ 1600) := fun v hv => by rw [← hU]; exact step_mul hv
  rw [hU] at HV
  clear hU hdin hdl hg1 hT hl hI h16
  generalize lsfL (n : Int) (oneZ n want : Nat) = l at *
  generalize twosZ (n : Int) want = T at *
  generalize oneZ (n : Int) want = o at *
  have hx := Idx.new w (.int .i64 one) (.slice a n cap)
  have hB := (Below.refl w.heap.size w).alloc (Nat.le_refl _) (.cells #[.int .i64 one, .slice a n cap] 29)
  go_enter Try.func6, Try.ntmps6
  go_wp2_with (first
    | (go_at_call 9; refine (awake_any _).mono ?_; rintro e w1 ⟨rfl, hb1⟩; replace hx := hx.keep hb1; obtain ⟨x0, x1⟩ := hx.cells; replace hB := hB.trans (hb1.mono hB.size); clear hb1)
    | (go_at_call 15; refine (HG.out _ hB).mono ?_; rintro e w2 ⟨rfl, hw2⟩; rw [← hw2] at hB hx x0 x1; clear hw2)
    | (go_at_call 17; go_loud (refine (HD.out _ hB).mono ?_; rintro e w3 ⟨a3, c3, rfl, hz3, hb3⟩; replace hB := hB.trans (hb3.mono hB.size); clear hb3 hx x0 x1))
    | (go_at_call 12; go_loud (refine (HS.out _ _ _ hz3).mono ?_; rintro e w4 ⟨a4, rfl, hz4, hb4⟩; replace hz3 := (hz3.keep hb4).alloc (.cells #[.int .i64 (o : Int), .slice a4 n n] 29); replace hz4 := hz4.alloc (.cells #[.int .i64 (o : Int), .slice a4 n n] 29); have hB0 := hB.trans (hb4.mono hB.size); have hB4 := hB0.alloc hB0.size (.cells #[.int .i64 (o : Int), .slice a4 n n] 29); have hy := Idx.new w4 (.int .i64 (o : Int)) (.slice a4 n n); clear hb4 hB hB0))
    | (go_at_call 13; go_loud (refine (HG2.out _ _ hz4).mono ?_; rintro e w5 ⟨rfl, hb5⟩; replace hy := hy.keep hb5; obtain ⟨y0, y1⟩ := hy.cells; replace hz3 := hz3.keep hb5; replace hz4 := hz4.keep hb5; have hB5 := hB4.trans (hb5.mono hB4.size); clear hb5 hB4))
    | (go_at_call 21; go_loud (refine (HL.out _).mono ?_; rintro e w6 ⟨a6, c6, rfl, hz6, hb6⟩; replace hy := hy.keep hb6; obtain ⟨u0, u1⟩ := hy.cells; replace hz3 := hz3.keep hb6; replace hz4 := hz4.keep hb6; have hB6 := hB5.trans (hb6.mono hB5.size); clear hb6 hB5 y0 y1)))
  have H1 : Hid (∃ b off, a6 = some ⟨b, off, none⟩ ∧ ∀ i, i < n → w6.cell? ⟨b, off + i, none⟩ = some (.int .i64 (atN l i))) := by obtain ⟨b, off, e, _, hc⟩ := hz6.at_ (by omega); exact ⟨b, off, e, hc⟩
  have H2 : Hid (∃ b off, a3 = some ⟨b, off, none⟩ ∧ ∀ i, i < n → w6.cell? ⟨b, off + i, none⟩ = some (.int .i64 (atN want i))) := by obtain ⟨b, off, e, _, hc⟩ := hz3.at_ (by omega); exact ⟨b, off, e, hc⟩
  have H3 : Hid (∃ b off, a4 = some ⟨b, off, none⟩ ∧ ∀ i, i < n → w6.cell? ⟨b, off + i, none⟩ = some (.int .i64 (atN T i))) := by obtain ⟨b, off, e, _, hc⟩ := hz4.at_ (by omega); exact ⟨b, off, e, hc⟩
  have HB6 : Hid (Below w.heap.size w w6) := hB6
  obtain ⟨b1, o1, rfl, g1⟩ := H1.out
  obtain ⟨b2, o2, rfl, g2⟩ := H2.out
  obtain ⟨b3, o3, rfl, g3⟩ := H3.out
  have G1 : Hid (∀ i, i < n → w6.cell? ⟨b1, o1 + i, none⟩ = some (.int .i64 (atN l i))) := g1
  have G2 : Hid (∀ i, i < n → w6.cell? ⟨b2, o2 + i, none⟩ = some (.int .i64 (atN want i))) := g2
  have G3 : Hid (∀ i, i < n → w6.cell? ⟨b3, o3 + i, none⟩ = some (.int .i64 (atN T i))) := g3
  clear g1 g2 g3 H1 H2 H3 hz6 hz3 hz4 hB6 hy u0 HG HD HL HS HG2
  go_loopw [9, 10, 11] (fun i _ _ W => (∃ d, W = w6.drewN d) ∧ ∃ k : Nat, k ≤ n ∧ i = .int .i64 k) (fun i _ _ _ => n - (intOf i).toNat)
  case atStart => exact ⟨⟨0, rfl⟩, 0, Nat.zero_le _, rfl⟩
  case round =>
    obtain ⟨⟨d, rfl⟩, k, hk, rfl⟩ := hrel
    by_cases hkm : k < n
    · have q1 := G1.out k hkm
      have q2 := G2.out k hkm
      have q3 := G3.out k hkm
      obtain ⟨r1, r2, r3, r4⟩ := HV.out k hkm
      generalize atN l k = x at *
      generalize atN want k = y at *
      generalize atN T k = v at *
      have hp := HP.out v r3
      clear G1 G2 G3 HV HP
      by_cases s1 : x - y < 0
      · by_cases s2 : x + U * v - y < 0
        · have s3 : ¬ (-(x - y) < -(x + U * v - y)) := by omega
          clear r4
          go_wp2
          go_quiet (fail)
          all_goals
            go_wp2
            rw [World.drewN_drewN]
            go_quiet ((go_at_call 22; exact (HU.out _).mono (fun _ _ ⟨he, hw⟩ => ⟨he, _, hw⟩)))
            all_goals
              go_wp2
              go_roundw
              case rel => exact ⟨⟨_, rfl⟩, k + 1, by omega, by go_num⟩
              case measure => simp [intOf]; omega
        · have s3 : ¬ (-(x - y) < (x + U * v - y)) := by omega
          clear r4
          go_wp2
          go_quiet (fail)
          all_goals
            go_wp2
            rw [World.drewN_drewN]
            go_quiet ((go_at_call 22; exact (HU.out _).mono (fun _ _ ⟨he, hw⟩ => ⟨he, _, hw⟩)))
            all_goals
              go_wp2
              go_roundw
              case rel => exact ⟨⟨_, rfl⟩, k + 1, by omega, by go_num⟩
              case measure => simp [intOf]; omega
      · by_cases s2 : x + U * v - y < 0
        · have s3 : ¬ ((x - y) < -(x + U * v - y)) := by omega
          clear r4
          go_wp2
          go_quiet (fail)
          all_goals
            go_wp2
            rw [World.drewN_drewN]
            go_quiet ((go_at_call 22; exact (HU.out _).mono (fun _ _ ⟨he, hw⟩ => ⟨he, _, hw⟩)))
            all_goals
              go_wp2
              go_roundw
              case rel => exact ⟨⟨_, rfl⟩, k + 1, by omega, by go_num⟩
              case measure => simp [intOf]; omega
        · have s3 : ¬ ((x - y) < (x + U * v - y)) := by omega
          clear r4
          go_wp2
          go_quiet (fail)
          all_goals
            go_wp2
            rw [World.drewN_drewN]
            go_quiet ((go_at_call 22; exact (HU.out _).mono (fun _ _ ⟨he, hw⟩ => ⟨he, _, hw⟩)))
            all_goals
              go_wp2
              go_roundw
              case rel => exact ⟨⟨_, rfl⟩, k + 1, by omega, by go_num⟩
              case measure => simp [intOf]; omega
    · go_wp2
      go_ret
      exact ⟨rfl, below_drewN HB6.out d⟩

theorem lsfNear.walk (order : Int) (one : Int) (a : Option Addr) (len cap : Nat) (z : List Int) (w : World) (_w0 : (Lit.int .i64 order).wf = true) (_w1 : (Lit.int .i64 one).wf = true) (h : IsRow .i64 w a len cap z) :
    Calls Try.prog 6 #[.int .i64 order, .agg #[.int .i64 one, .slice a len cap]] w fun e w' => e = .returned (.bool true) ∧ Below w.heap.size w w' := by
  obtain ⟨hz, hm, _⟩ := Zs.of_isRow h
  by_cases hg : GoodX order one (z.take len)
  · exact near_some order one a len cap _ w hz hm hg
  · exact near_none order one a len cap _ w hz hm hg

end Go.Proofs.Ytpppnagodlpnjaa
