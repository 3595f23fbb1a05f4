/- The document's own small calls: the number so many from a list's end; the last ones. -/
import Derived.Test.YtbnkapeahbegaaaSynA
import Derived.Test.YtbnkapeahbegaaaNumB
import Derived.Deep.AppendLies
import Derived.OwnWalk
namespace Go.Proofs.Ytbnkapeahbegaaa
open Go.RowKit

set_option maxHeartbeats 1000000 in
theorem ahead_any (a : Option Addr) (n cap : Nat) (zs : List Int) (m : Int) (w : World) (hz : Zs w a n zs) (hn : n ≤ 100000) :
    Calls Try.prog 28 #[.slice a n cap, .int .i64 m] w fun e w' => e = .returned (.int .i64 (aheadI zs m)) ∧ w' = w := by
  have hl := hz.len
  by_cases h1 : m < 1
  · have e : aheadI zs m = 0 := by unfold aheadI; rw [if_pos h1]
    rw [e]
    clear hz hl e
    go_enter Try.func28, Try.ntmps28
    go_wp2
    go_ret
    exact ⟨rfl, rfl⟩
  · by_cases h2 : (n : Int) < m
    · have e : aheadI zs m = 0 := by unfold aheadI; rw [if_neg h1, hl, if_pos h2]
      rw [e]
      clear hz hl e
      go_enter Try.func28, Try.ntmps28
      go_wp2
      go_ret
      exact ⟨rfl, rfl⟩
    · obtain ⟨i, hi⟩ : ∃ i : Nat, n - m.toNat = i := ⟨_, rfl⟩
      obtain ⟨b, off, rfl, _, hc⟩ := hz.at_ (by omega)
      have hci := hc i (by omega)
      have e : aheadI zs m = zs[i]?.getD 0 := by unfold aheadI; rw [if_neg h1, hl, if_neg h2, hi]
      rw [e]
      generalize zs[i]?.getD 0 = x at hci
      have e1 : IntKind.i64.wrap ((n : Int) - m) = (i : Int) := by rw [IntKind.wrap_i64]; omega
      have e2 : (n : Int) - m = (i : Int) := by omega
      have hin : i < n := by omega
      clear hz hl hc e hi
      go_enter Try.func28, Try.ntmps28
      go_wp2
      go_ret
      exact ⟨rfl, rfl⟩

theorem ownsRow_empty (w : World) (B : Nat) (hB : B ≤ w.heap.size) (e : TypeId) (cs : Array Value) (hc : cs = #[]) : (w.alloc (.cells cs e)).ownsRow B e 1 (.slice (some ⟨w.heap.size, 0, none⟩) 0 0) 0 [] := by
  subst hc
  exact ⟨rfl, .inr ⟨w.heap.size, 0, #[], rfl, hB, heap_alloc_new w _, Nat.le_refl _, Nat.zero_le _, rfl, rfl⟩⟩

set_option maxHeartbeats 1000000 in
theorem last_any (a : Option Addr) (n cap : Nat) (zs : List Int) (m B : Nat) (w : World) (hz : Zs w a n zs) (hB : B ≤ w.heap.size) (hn0 : 0 < n) (hn : n ≤ 1000) (hcap : n ≤ cap) (hm0 : 0 < m) (hm : m ≤ 1000) :
    Calls Try.prog 30 #[.slice a n cap, .int .i64 (m : Int)] w fun e w' => ∃ g c, e = .returned (.slice (some ⟨g, 0, none⟩) (lastI zs m).length c) ∧ w.heap.size ≤ g ∧ w'.ownsRow B 2 1 (.slice (some ⟨g, 0, none⟩) (lastI zs m).length c) (lastI zs m).length ((lastI zs m).map (Value.int .i64)) ∧ Below w.heap.size w w' := by
  obtain ⟨ti, hi, hzz⟩ := Option.map_eq_some_iff.1 info_int64
  simp only [Prod.mk.injEq] at hzz
  obtain ⟨hz0, hsz, hby⟩ := hzz
  have hl := hz.len
  obtain ⟨b, off, rfl, hb, hc⟩ := hz.at_ hn0
  by_cases hlt : m < n
  · obtain ⟨o, ho⟩ : ∃ o : Nat, n - m = o := ⟨_, rfl⟩
    obtain ⟨cc, hcc⟩ : ∃ cc : Nat, cap - o = cc := ⟨_, rfl⟩
    obtain ⟨s1, s2⟩ := slice_from b off n cap o m cc (by omega) (by omega) hcc.symm (by omega)
    have hL : lastI zs m = zs.drop o := by unfold lastI; rw [if_pos (by omega), hl, ho]
    have hLl : (zs.drop o).length = m := by rw [List.length_drop]; omega
    rw [hL, hLl]
    have HNEWS : Hid (∀ W, Below w.heap.size w W → ∀ j u, ((zs.drop o).map (Value.int .i64))[j]? = some u → W.cell? ((⟨b, off + o, none⟩ : Addr).add j) = some u) := fun W hW j u hj => by
      have hjl : j < (zs.drop o).length := by have := (List.getElem?_eq_some_iff.1 hj).1; simpa using this
      have h1 := hc (o + j) (by omega)
      have e9 : off + (o + j) = off + o + j := by omega
      rw [Addr.add_lit, hW.cell (p := ⟨b, off + o + j, none⟩) hb, ← e9, h1, ← hj, List.getElem?_map, List.getElem?_eq_getElem hjl]
      simp
      rw [List.getElem?_eq_getElem (by omega)]
      rfl
    have HOWN : Hid (∀ cs : Array Value, cs = #[] → (w.alloc (.cells cs 2)).ownsRow B 2 1 (.slice (some ⟨w.heap.size, 0, none⟩) 0 0) 0 []) := fun cs hcs => ownsRow_empty w B hB _ cs hcs
    have HOWN2 : Hid (∀ cs : Array Value, cs = #[] → (w.alloc (.cells cs 2)).ownsRow w.heap.size 2 1 (.slice (some ⟨w.heap.size, 0, none⟩) 0 0) 0 []) := fun cs hcs => ownsRow_empty w _ (Nat.le_refl _) _ cs hcs
    have hmI : (m : Int) < (n : Int) := by omega
    have e1 : IntKind.i64.wrap ((n : Int) - (m : Int)) = (o : Int) := by rw [IntKind.wrap_i64]; omega
    have e2 : (n : Int) - (m : Int) = (o : Int) := by omega
    have HM : Hid (((zs.drop o).map (Value.int .i64)).length = m * 1) := by show _ = _; rw [List.length_map, hLl, Nat.mul_one]
    have HONE : Hid (∀ u ∈ (zs.drop o).map (Value.int .i64), u.oneCell' = true) := fun u hu => by obtain ⟨q, _, rfl⟩ := List.mem_map.1 hu; rfl
    clear hz hl hc hL hLl ho hcc hlt
    generalize (zs.drop o).map (Value.int .i64) = news at *
    go_enter Try.func30, Try.ntmps30
    go_wp2_with (at_builtin; go_loud (refine wpList_append_lies _ rfl _ _ 25 rfl w.heap.size 2 ti (.int .i64 0) 1 8 Try.underlying25 hi hz0 hsz hby rfl (by decide) (.slice (some ⟨w.heap.size, 0, none⟩) 0 0) 0 [] rfl (HOWN2.out _ rfl) ⟨b, off + o, none⟩ m cc news rfl HM.out (HNEWS.out _ ((Below.refl _ _).alloc (Nat.le_refl _) _)) HONE.out hm0 (by unfold maxLen; omega) (by omega) (by simp) _ rfl ?_; intro g c w3 h4 h5 h6 h7))
    have HG : Hid (w.heap.size ≤ g ∧ w3.ownsRow B 2 1 (.slice (some ⟨g, 0, none⟩) m c) m news ∧ Below w.heap.size w w3) := by
      rw [Nat.zero_add, List.nil_append] at h4
      obtain ⟨k1, k2⟩ := h4
      rcases k2 with ⟨k2, _⟩ | ⟨g', cap', cur, hv, hg, hh, hrest⟩
      · cases k2
      · cases hv
        exact ⟨hg, ⟨k1, .inr ⟨g, c, cur, rfl, by omega, hh, hrest⟩⟩, ((Below.refl _ w).alloc (Nat.le_refl _) _).grown h5 (by simp) (fun k hk => by simp [Value.ownBlock] at hk; omega)⟩
    clear h4 h5 h6 h7 HNEWS HOWN HOWN2 HONE HM
    go_wp2
    go_ret
    exact ⟨g, c, rfl, HG.out⟩
  · have hL : lastI zs m = zs := by unfold lastI; rw [if_neg (by omega)]
    rw [hL, hl]
    have HNEWS : Hid (∀ W, Below w.heap.size w W → ∀ j u, (zs.map (Value.int .i64))[j]? = some u → W.cell? ((⟨b, off, none⟩ : Addr).add j) = some u) := fun W hW j u hj => by
      have hjl : j < zs.length := by have := (List.getElem?_eq_some_iff.1 hj).1; simpa using this
      have h1 := hc j (by omega)
      rw [Addr.add_lit, hW.cell (p := ⟨b, off + j, none⟩) hb, h1, ← hj, List.getElem?_map, List.getElem?_eq_getElem hjl]
      rfl
    have HOWN2 : Hid (∀ cs : Array Value, cs = #[] → (w.alloc (.cells cs 2)).ownsRow w.heap.size 2 1 (.slice (some ⟨w.heap.size, 0, none⟩) 0 0) 0 []) := fun cs hcs => ownsRow_empty w _ (Nat.le_refl _) _ cs hcs
    have hmI : ((m : Int) < (n : Int)) = False := eq_false (by omega)
    have HM : Hid ((zs.map (Value.int .i64)).length = n * 1) := by show _ = _; rw [List.length_map, hl, Nat.mul_one]
    have HONE : Hid (∀ u ∈ zs.map (Value.int .i64), u.oneCell' = true) := fun u hu => by obtain ⟨q, _, rfl⟩ := List.mem_map.1 hu; rfl
    clear hz hl hc hL hlt
    generalize zs.map (Value.int .i64) = news at *
    go_enter Try.func30, Try.ntmps30
    go_wp2_with (at_builtin; go_loud (refine wpList_append_lies _ rfl _ _ 25 rfl w.heap.size 2 ti (.int .i64 0) 1 8 Try.underlying25 hi hz0 hsz hby rfl (by decide) (.slice (some ⟨w.heap.size, 0, none⟩) 0 0) 0 [] rfl (HOWN2.out _ rfl) ⟨b, off, none⟩ n cap news rfl HM.out (HNEWS.out _ ((Below.refl _ _).alloc (Nat.le_refl _) _)) HONE.out hn0 (by unfold maxLen; omega) (by omega) (by simp) _ rfl ?_; intro g c w3 h4 h5 h6 h7))
    have HG : Hid (w.heap.size ≤ g ∧ w3.ownsRow B 2 1 (.slice (some ⟨g, 0, none⟩) n c) n news ∧ Below w.heap.size w w3) := by
      rw [Nat.zero_add, List.nil_append] at h4
      obtain ⟨k1, k2⟩ := h4
      rcases k2 with ⟨k2, _⟩ | ⟨g', cap', cur, hv, hg, hh, hrest⟩
      · cases k2
      · cases hv
        exact ⟨hg, ⟨k1, .inr ⟨g, c, cur, rfl, by omega, hh, hrest⟩⟩, ((Below.refl _ w).alloc (Nat.le_refl _) _).grown h5 (by simp) (fun k hk => by simp [Value.ownBlock] at hk; omega)⟩
    clear h4 h5 h6 h7 HNEWS HOWN2 HONE HM
    go_wp2
    go_ret
    exact ⟨g, c, rfl, HG.out⟩

end Go.Proofs.Ytbnkapeahbegaaa
