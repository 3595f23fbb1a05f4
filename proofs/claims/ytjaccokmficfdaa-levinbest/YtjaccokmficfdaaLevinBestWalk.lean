/- The law LevinBest answers true: the document's own search finds the same. -/
import Derived.Test.YtjaccokmficfdaaLevJ
import Derived.Test.YtjaccokmficfdaaActs
namespace Go.Proofs.Ytjaccokmficfdaa
open Go.RowKit Lev

set_option maxRecDepth 100000 in
set_option maxHeartbeats 3200000 in
theorem levinBest.walk (x : Option Addr) (n cap : Nat) (zq : List Int) (o : Int) (w : World) (hq : IsRow .i64 w x n cap zq) (_ : (Lit.int .i64 o).wf = true) :
    Calls Try.prog 5 #[.slice x n cap, .int .i64 o] w fun e w' => e = .returned (.bool true) ∧ Below w.heap.size w w' := by
  obtain ⟨hz, hm, _⟩ := Zs.of_isRow hq
  clear hq
  generalize zq.take n = zs at hz
  have HZ : Hid (∀ W, Below w.heap.size w W → Zs W x n zs) := fun W hW => hz.keep hW
  have HL : Hid (zs.length = n ∧ n ≤ maxLen) := ⟨hz.len, hm⟩
  have hm2 : (n : Int) ≤ 9223372036854775807 := by simp only [maxLen] at hm; omega
  have hb := Below.refl w.heap.size w
  clear hz hm
  by_cases hn : 200 < n
  · go_enter Try.func5, Try.ntmps5
    go_wp2_with (go_at_call 9; go_loud (refine (awake_any w).mono ?_; rintro e w1 ⟨rfl, hb1⟩; replace hb := hb.trans (hb1.mono hb.size); clear hb1))
    go_ret
    exact ⟨rfl, hb⟩
  · have HN : Hid (n ≤ 200 ∧ n * 8 ≤ 140737488355328 ∧ n ≤ 960) := ⟨by omega, by omega, by omega⟩
    have HCOPY : Hid (∀ W, Below w.heap.size w W → 0 < n → ∃ y, x = some y ∧ ∀ i, i < n → W.cell? (y.add i) = some (.int .i64 (zs[i]?.getD 0))) := fun W hW h0 => zs_adds (HZ.out W hW) h0
    by_cases ho : o = 10 ∨ o = 16
    · rcases ho with rfl | rfl
      · obtain ⟨q, hq⟩ : ∃ q, foundZ zs 10 = q := ⟨_, rfl⟩
        have HF : Hid (foundZ zs 10 = q) := hq
        clear hq
        go_enter Try.func5, Try.ntmps5
        go_wp2_with (first
          | (go_at_call 9; go_loud (refine (awake_any w).mono ?_; rintro e w1 ⟨rfl, hb1⟩; replace hb := hb.trans (hb1.mono hb.size); clear hb1))
          | (at_builtin; go_loud (refine wpList_append_copy 23 2 Try.underlying23 info_int64 x n cap zs HL.out.1 HN.out.2.1 (HCOPY.out _ hb) rfl _ _ rfl rfl rfl ?_; intro r1 c1 w2 hr1 hb2; have hz1 := Zs.of_new hr1 HL.out.1; replace hb := hb.trans (hb2.mono hb.size); clear hb2))
          | (go_at_call 13; go_loud (refine (pBest_int r1 n c1 10 10 rfl zs _ hz1 HN.out.2.2 (by decide)).mono ?_; rw [HF.out]; rintro e w3 ⟨rfl, hb3⟩; replace hb := hb.trans (hb3.mono hb.size); clear hb3))
          | (go_at_call 21; go_loud (refine (rFound_int x n cap 10 10 rfl zs _ (HZ.out _ hb) HN.out.2.2 (by decide)).mono ?_; rw [HF.out]; rintro e w4 ⟨rfl, hb4⟩; replace hb := hb.trans (hb4.mono hb.size); clear hb4)))
        go_ret
        exact ⟨rfl, hb⟩
      · obtain ⟨q, hq⟩ : ∃ q, foundZ zs 16 = q := ⟨_, rfl⟩
        have HF : Hid (foundZ zs 16 = q) := hq
        clear hq
        go_enter Try.func5, Try.ntmps5
        go_wp2_with (first
          | (go_at_call 9; go_loud (refine (awake_any w).mono ?_; rintro e w1 ⟨rfl, hb1⟩; replace hb := hb.trans (hb1.mono hb.size); clear hb1))
          | (at_builtin; go_loud (refine wpList_append_copy 23 2 Try.underlying23 info_int64 x n cap zs HL.out.1 HN.out.2.1 (HCOPY.out _ hb) rfl _ _ rfl rfl rfl ?_; intro r1 c1 w2 hr1 hb2; have hz1 := Zs.of_new hr1 HL.out.1; replace hb := hb.trans (hb2.mono hb.size); clear hb2))
          | (go_at_call 13; go_loud (refine (pBest_int r1 n c1 16 16 rfl zs _ hz1 HN.out.2.2 (by decide)).mono ?_; rw [HF.out]; rintro e w3 ⟨rfl, hb3⟩; replace hb := hb.trans (hb3.mono hb.size); clear hb3))
          | (go_at_call 21; go_loud (refine (rFound_int x n cap 16 16 rfl zs _ (HZ.out _ hb) HN.out.2.2 (by decide)).mono ?_; rw [HF.out]; rintro e w4 ⟨rfl, hb4⟩; replace hb := hb.trans (hb4.mono hb.size); clear hb4)))
        go_ret
        exact ⟨rfl, hb⟩
    · have HO : Hid (¬ (n ≤ 960 ∧ (o = 10 ∨ o = 16))) := fun h => ho h.2
      have ho1 : (o != 10) = true := bne_iff_ne.2 (fun h => ho (.inl h))
      have ho2 : (o != 16) = true := bne_iff_ne.2 (fun h => ho (.inr h))
      clear ho
      go_enter Try.func5, Try.ntmps5
      go_wp2_with (first
        | (go_at_call 9; go_loud (refine (awake_any w).mono ?_; rintro e w1 ⟨rfl, hb1⟩; replace hb := hb.trans (hb1.mono hb.size); clear hb1))
        | (at_builtin; go_loud (refine wpList_append_copy 23 2 Try.underlying23 info_int64 x n cap zs HL.out.1 HN.out.2.1 (HCOPY.out _ hb) rfl _ _ rfl rfl rfl ?_; intro r1 c1 w2 hr1 hb2; have hz1 := Zs.of_new hr1 HL.out.1; replace hb := hb.trans (hb2.mono hb.size); clear hb2))
        | (go_at_call 13; go_loud (refine (pBest_no r1 n c1 o zs _ hz1 HL.out.2 HO.out).mono ?_; rintro e w3 ⟨rfl, hb3⟩; replace hb := hb.trans (hb3.mono hb.size); clear hb3)))
      go_ret
      exact ⟨rfl, hb⟩

end Go.Proofs.Ytjaccokmficfdaa
