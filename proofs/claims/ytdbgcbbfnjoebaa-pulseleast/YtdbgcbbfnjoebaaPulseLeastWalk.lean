/- None left out, all left out, step by step: whatever the list and the numbers. -/
import Derived.Test.YtdbgcbbfnjoebaaPulseV
import Derived.Test.YtdbgcbbfnjoebaaPulseW
namespace Go.Proofs.Ytdbgcbbfnjoebaa
open Go.RowKit

theorem isrow_cap {k : IntKind} {w : World} {a : Option Addr} {len cap : Nat} {z : List Int} (h : IsRow k w a len cap z) : len ≤ cap ∧ len ≤ 9223372036854775807 := by
  rcases h with ⟨_, rfl, rfl, _⟩ | ⟨x, _, hl, hm, _⟩
  · decide
  · unfold maxLen at hm; omega

set_option maxRecDepth 100000 in
set_option maxHeartbeats 1600000 in
theorem pulseLeast.gen (r : Option Addr) (n cap : Nat) (zs : List Int) (a b : Int) (w : World) (hz : Zs w r n zs) (hcap : n ≤ cap) :
    Calls Try.prog 7 #[.slice r n cap, .int .i64 a, .int .i64 b] w fun e w' => e = .returned (.bool true) ∧ Below w.heap.size w w' := by
  have hb := Below.refl w.heap.size w
  have HZ : Hid (∀ W, Below w.heap.size w W → Zs W r n zs) := fun W hW => hz.keep hW
  have hl := hz.len
  cases hg : goodL zs with
  | false =>
    have HG : Hid (goodL zs = false ∧ n ≤ cap) := ⟨hg, hcap⟩
    clear hz hcap hg hl
    go_enter Try.func7, Try.ntmps7
    go_wp2_with (first
      | (go_at_call 9; refine (awake_any _).mono ?_; rintro e w1 ⟨rfl, hb1⟩; replace hb := hb.trans (hb1.mono hb.size); clear hb1)
      | (go_at_call 13; go_loud (refine (pgood_any r n cap zs _ (HZ.out _ hb) HG.out.2).mono ?_; rw [HG.out.1]; rintro e w2 ⟨rfl, rfl⟩)))
    go_ret
    exact ⟨rfl, hb⟩
  | true =>
    obtain ⟨m, hm1, hm, hgn⟩ := goodL_iff.1 hg
    have hlen := goodN_len m zs hgn
    have HG : Hid (goodL zs = true ∧ n ≤ cap) := ⟨hg, hcap⟩
    by_cases h : b ≤ a ∧ 0 ≤ b ∧ a ≤ 16
    · obtain ⟨h1, h2, h3⟩ := h
      have ca : clampI a 0 16 = a := by unfold clampI; rw [if_neg (by omega), if_neg (by omega), if_neg (by omega)]
      have cb : clampI b 0 16 = b := by unfold clampI; rw [if_neg (by omega), if_neg (by omega), if_neg (by omega)]
      have ea : fewerL a zs = fewsL a m zs := by rw [fewer_good hgn, ca]
      have eb : fewerL b zs = fewsL b m zs := by rw [fewer_good hgn, cb]
      have hga := fews_may (show 0 ≤ a by omega) h3 m zs (by omega)
      have HF : Hid (fewerL 16 zs = zs ∧ fewerL 0 zs = List.replicate n 0 ∧ fewerL b (fewerL a zs) = fewerL b zs ∧ (fewerL a zs).length = n ∧ (fewerL b zs).length = n ∧ zs.length = n ∧ n ≤ 480 ∧ (fewerL b (fewerL a zs)).length = n) := by
        have e16 : clampI 16 0 16 = 16 := by decide
        have e0 : clampI 0 0 16 = 0 := by decide
        refine ⟨?_, ?_, ?_, ?_, ?_, hl, by omega, ?_⟩
        · rw [fewer_good hgn, e16]; exact fews_all m zs hgn
        · rw [fewer_good hgn, e0, fews_none m zs hlen, ← hl, hlen]
        · rw [ea, fewer_good hga, cb, eb]; exact fews_twice h2 h1 m zs hlen
        · rw [fewerL_len, hl]
        · rw [fewerL_len, hl]
        · rw [fewerL_len, fewerL_len, hl]
      have hab : (a < b) = False := eq_false (by omega)
      have hb0 : (b < 0) = False := eq_false (by omega)
      have ha16 : (16 < a) = False := eq_false (by omega)
      have hmk := fun W : World => run_make_row' (P := Try.prog) 23 2 (.int .i64 0) 8 Try.underlying23 info_int64 rfl .i64 .i64 n (by omega) (by omega) W
      have HROW : Hid (∀ (W : World) (g : Nat), g = W.heap.size → NewRow 2 g (W.alloc (.cells (madeCells #[.int .i64 0] n) 2)) (some ⟨g, 0, none⟩) (List.replicate n 0)) := fun W g hg => by
        rw [hg]
        exact NewRow.made W n
      have hnI : (n : Int) ≤ 480 := by omega
      have f1 : Hid True := trivial
      have f2 : Hid True := trivial
      have f3 : Hid True := trivial
      have f4 : Hid True := trivial
      have y1 : Hid True := trivial
      have y2 : Hid True := trivial
      clear hz hcap hg hl hm1 hm hgn hlen h1 h2 h3 ca cb ea eb hga
      go_enter Try.func7, Try.ntmps7
      go_wp2_with (first
        | (go_at_call 9; refine (awake_any _).mono ?_; rintro e w1 ⟨rfl, hb1⟩; replace hb := hb.trans (hb1.mono hb.size); clear hb1)
        | (go_at_call 13; go_loud (refine (pgood_any r n cap zs _ (HZ.out _ hb) HG.out.2).mono ?_; rw [HG.out.1]; rintro e w2 ⟨rfl, rfl⟩))
        | (go_at_call 16; clear f1; go_loud (refine (fewer_ex r n cap 16 zs _ (HZ.out _ hb) HF.out.2.2.2.2.2.2.1).mono ?_; rw [HF.out.1]; rintro e w3 ⟨g3, rfl, hr3, hb3⟩; have hbA := hb.trans (hb3.mono hb.size); clear hb3))
        | (go_at_call 16; clear f2; go_loud (refine (fewer_ex r n cap 0 zs _ (HZ.out _ hbA) HF.out.2.2.2.2.2.2.1).mono ?_; rw [HF.out.2.1]; rintro e w4 ⟨g4, rfl, hr4, hb4⟩; have hr34 := hr3.keep hb4; have hbB := hbA.trans (hb4.mono hbA.size); clear hb4 hr3))
        | (go_at_call 16; clear f3; go_loud (refine (fewer_ex r n cap a zs _ (HZ.out _ hbB) HF.out.2.2.2.2.2.2.1).mono ?_; rintro e w5 ⟨g5, rfl, hr5, hb5⟩; have hr35 := hr34.keep hb5; have hr45 := hr4.keep hb5; have hbC := hbB.trans (hb5.mono hbB.size); clear hb5 hr34 hr4))
        | (go_at_call 16; clear f4; go_loud (refine (fewer_ex _ n n b (fewerL a zs) _ (Zs.of_new hr5 HF.out.2.2.2.1) HF.out.2.2.2.2.2.2.1).mono ?_; rw [HF.out.2.2.1]; rintro e w6 ⟨g6, rfl, hr6, hb6⟩; have hr36 := hr35.keep hb6; have hr46 := hr45.keep hb6; have hbD := hbC.trans (hb6.mono hbC.size); clear hb6 hr35 hr45))
        | (go_at_call 20; clear y1; go_loud (refine (zsame_any _ _ n n cap zs _ (Zs.of_new hr36 HF.out.2.2.2.2.2.1) (HZ.out _ hbD) (by have := HF.out.2.2.2.2.2.2.1; omega)).mono ?_; rintro e w7 ⟨rfl, k7, rfl⟩; have hbE := below_drewN hbD k7; have hr47 := hr46.drewN k7; have hr67 := hr6.drewN k7))
        | (go_at_call 20; clear y2; go_loud (refine (zsame_any _ _ n n n (List.replicate n 0) _ (Zs.of_new (hr47.alloc _) (by rw [List.length_replicate])) (Zs.of_new (HROW.out (w6.drewN k7) _ rfl) (by rw [List.length_replicate])) (by have := HF.out.2.2.2.2.2.2.1; omega)).mono ?_; rintro e w8 ⟨rfl, k8, rfl⟩; have hbF := below_drewN (hbE.alloc hbE.size (.cells (madeCells #[.int .i64 0] n) 2)) k8; have hr68 := (hr67.alloc (.cells (madeCells #[.int .i64 0] n) 2)).drewN k8))
        | (go_at_call 16; go_loud (refine (fewer_ex r n cap b zs _ (HZ.out _ hbF) HF.out.2.2.2.2.2.2.1).mono ?_; rintro e w9 ⟨g9, rfl, hr9, hb9⟩; have hr69 := hr68.keep hb9; have hbG := hbF.trans (hb9.mono hbF.size); clear hb9))
        | (go_at_call 20; go_loud (refine (zsame_any _ _ n n n (fewerL b zs) _ (Zs.of_new hr69 HF.out.2.2.2.2.1) (Zs.of_new hr9 HF.out.2.2.2.2.1) (by have := HF.out.2.2.2.2.2.2.1; omega)).mono ?_; rintro e w10 ⟨rfl, k10, rfl⟩; have hbH := below_drewN hbG k10)))
      go_ret
      exact ⟨rfl, hbH⟩
    · by_cases h1 : a < b
      · clear h hz hcap hg hl hm1 hm hgn hlen
        go_enter Try.func7, Try.ntmps7
        go_wp2_with (first
          | (go_at_call 9; refine (awake_any _).mono ?_; rintro e w1 ⟨rfl, hb1⟩; replace hb := hb.trans (hb1.mono hb.size); clear hb1)
          | (go_at_call 13; go_loud (refine (pgood_any r n cap zs _ (HZ.out _ hb) HG.out.2).mono ?_; rw [HG.out.1]; rintro e w2 ⟨rfl, rfl⟩)))
        go_ret
        exact ⟨rfl, hb⟩
      · have hab : (a < b) = False := eq_false h1
        by_cases h2 : b < 0
        · clear h hz hcap hg hl hm1 hm hgn hlen h1
          go_enter Try.func7, Try.ntmps7
          go_wp2_with (first
            | (go_at_call 9; refine (awake_any _).mono ?_; rintro e w1 ⟨rfl, hb1⟩; replace hb := hb.trans (hb1.mono hb.size); clear hb1)
            | (go_at_call 13; go_loud (refine (pgood_any r n cap zs _ (HZ.out _ hb) HG.out.2).mono ?_; rw [HG.out.1]; rintro e w2 ⟨rfl, rfl⟩)))
          go_ret
          exact ⟨rfl, hb⟩
        · have hb0 : (b < 0) = False := eq_false h2
          have h3 : 16 < a := by omega
          clear h hz hcap hg hl hm1 hm hgn hlen h1 h2
          go_enter Try.func7, Try.ntmps7
          go_wp2_with (first
            | (go_at_call 9; refine (awake_any _).mono ?_; rintro e w1 ⟨rfl, hb1⟩; replace hb := hb.trans (hb1.mono hb.size); clear hb1)
            | (go_at_call 13; go_loud (refine (pgood_any r n cap zs _ (HZ.out _ hb) HG.out.2).mono ?_; rw [HG.out.1]; rintro e w2 ⟨rfl, rfl⟩)))
          go_ret
          exact ⟨rfl, hb⟩

theorem pulseLeast.walk (r : Option Addr) (n cap : Nat) (z0 : List Int) (a b : Int) (w : World) (h0 : IsRow .i64 w r n cap z0) (_w1 : (Lit.int .i64 a).wf = true) (_w2 : (Lit.int .i64 b).wf = true) :
    Calls Try.prog 7 #[.slice r n cap, .int .i64 a, .int .i64 b] w fun e w' => e = .returned (.bool true) ∧ Below w.heap.size w w' :=
  pulseLeast.gen r n cap _ a b w (Zs.of_isRow h0).1 (isrow_cap h0).1

end Go.Proofs.Ytdbgcbbfnjoebaa
