/- The law PitchFinds answers true: what repeats is found; fewer lags are the first ones of more. -/
import Derived.Test.YtamiokleolfnoaaPitchP
import Derived.Test.YtamiokleolfnoaaActs
import Derived.Deep.RegionHeld3
namespace Go.Proofs.Ytamiokleolfnoaa
open Go.RowKit Pit

theorem topL_at {zs : List Int} {a : Int} {b k i : Nat} (h : i < b) : (topL zs a b k)[i]?.getD (0, 0) = (allL zs a k)[i]?.getD (0, 0) := by
  unfold topL
  rw [List.getElem?_take_of_lt h]
/-- Of two lags that stand one behind the other the first is the better one. -/
theorem allL_next {zs : List Int} {a : Int} {k i : Nat} (ha : 1 ≤ a) (hk : a + k ≤ 1000) (hi : i + 1 < k) : ((allL zs a k)[i + 1]?.getD (0, 0)).2 ≤ ((allL zs a k)[i]?.getD (0, 0)).2 ∧ (((allL zs a k)[i + 1]?.getD (0, 0)).2 = ((allL zs a k)[i]?.getD (0, 0)).2 → ((allL zs a k)[i]?.getD (0, 0)).1 ≤ ((allL zs a k)[i + 1]?.getD (0, 0)).1) := by
  have hl := allL_len zs a k
  have h0 : i < (allL zs a k).length := by omega
  have h1 : i + 1 < (allL zs a k).length := by omega
  rw [List.getElem?_eq_getElem h0, List.getElem?_eq_getElem h1]
  have h2 := List.pairwise_iff_getElem.1 (allL_desc zs ha hk) i (i + 1) h0 h1 (Nat.lt_succ_self i)
  have h3 := ((mem_allL zs a k _).1 (List.getElem_mem h0)).1
  have h4 := ((mem_allL zs a k _).1 (List.getElem_mem h1)).1
  unfold keyL at h2
  show (allL zs a k)[i + 1].2 ≤ (allL zs a k)[i].2 ∧ ((allL zs a k)[i + 1].2 = (allL zs a k)[i].2 → (allL zs a k)[i].1 ≤ (allL zs a k)[i + 1].1)
  omega
theorem allL_best {zs : List Int} {a : Int} {k : Nat} (ha : 1 ≤ a) (hk : a + k ≤ 1000) {z : Int} (h1 : a ≤ z) (h2 : z < a + k) : scoreI zs z ≤ ((allL zs a k)[0]?.getD (0, 0)).2 := by
  obtain ⟨q, hq, hle⟩ := allL_first zs ha hk (p := (z, scoreI zs z)) ((mem_allL zs a k _).2 ⟨⟨h1, h2⟩, rfl⟩)
  rw [hq]
  exact hle

/-- A cycle, over and over. -/
def cycL (q : List Int) (p : Nat) (k : Nat) : List Int := (List.range k).map fun i => q[i % p]?.getD 0
theorem cycL_len (q : List Int) (p k : Nat) : (cycL q p k).length = k := by unfold cycL; rw [List.length_map, List.length_range]
theorem cycL_succ (q : List Int) (p k : Nat) : cycL q p k ++ [q[k % p]?.getD 0] = cycL q p (k + 1) := by
  unfold cycL
  rw [List.range_succ, List.map_append]
  rfl

set_option maxRecDepth 100000 in
set_option maxHeartbeats 3200000 in
theorem pitchFinds.walk (x : Option Addr) (p cap : Nat) (zq : List Int) (n b : Int) (w : World) (hq : IsRow .i64 w x p cap zq) (_ : (Lit.int .i64 n).wf = true) (_ : (Lit.int .i64 b).wf = true) :
    Calls Try.prog 5 #[.slice x p cap, .int .i64 n, .int .i64 b] w fun e w' => e = .returned (.bool true) ∧ Below w.heap.size w w' := by
  obtain ⟨hz, hm, _⟩ := Zs.of_isRow hq
  clear hq
  generalize zq.take p = q at hz
  have HZ : Hid (∀ W, Below w.heap.size w W → Zs W x p q) := fun W hW => hz.keep hW
  have HL : Hid (q.length = p ∧ p ≤ maxLen) := ⟨hz.len, hm⟩
  have hm2 : (p : Int) ≤ 9223372036854775807 := by simp only [maxLen] at hm; omega
  have hb := Below.refl w.heap.size w
  clear hz hm
  by_cases hp : 2 ≤ p ∧ p ≤ 60
  · obtain ⟨hp1, hp2⟩ := hp
    by_cases hg : 4 * (p : Int) ≤ n ∧ n ≤ 600 ∧ 1 ≤ b ∧ b ≤ 31
    · obtain ⟨hg1, hg2, hg3, hg4⟩ := hg
      obtain ⟨n, rfl⟩ : ∃ z : Nat, n = (z : Int) := ⟨n.toNat, by omega⟩
      obtain ⟨b, rfl⟩ : ∃ z : Nat, b = (z : Int) := ⟨b.toNat, by omega⟩
      obtain ⟨d, hd⟩ : ∃ d, n / 2 = d + 1 := ⟨n / 2 - 1, by omega⟩
      have HD : Hid ((n : Int) / 2 = ((d + 1 : Nat) : Int)) := by
        show _ = _
        omega
      have HN : Hid (8 ≤ n ∧ n ≤ 600 ∧ 1 ≤ b ∧ b ≤ 31 ∧ d + 1 ≤ 300 ∧ n / 2 = d + 1 ∧ p ≤ d + 1 ∧ 2 ≤ p) := by
        refine ⟨by omega, by omega, by omega, by omega, by omega, by omega, by omega, hp1⟩
      have hnb : (n : Int) ≤ 600 := hg2
      clear hd
      go_enter Try.func5, Try.ntmps5
      go_wp2_with (go_at_call 8; refine (awake_any _).mono ?_; rintro e w1 ⟨rfl, hb1⟩; replace hb := hb.trans (hb1.mono hb.size); clear hb1)
      go_loopw [8, 9] (fun v i W => ∃ k : Nat, k ≤ n ∧ i = .int .i64 k ∧ Hid (W.ownsRow w.heap.size 2 1 v k ((cycL q p k).map (Value.int .i64)) ∧ Below w.heap.size w W)) (fun _ i _ => n - (intOf i).toNat)
      case atStart => exact ⟨0, Nat.zero_le _, rfl, World.ownsRow_nil _ _ _ _, hb⟩
      case round =>
        clear hb
        obtain ⟨k, hk, rfl, HH⟩ := hrel
        by_cases hlt : k < n
        · obtain ⟨hown, hbel⟩ := HH.out
          obtain ⟨g, off, rfl, hb0, hc⟩ := (HZ.out wr hbel).at_ (by omega)
          obtain ⟨m, hmm⟩ : ∃ m, k % p = m := ⟨_, rfl⟩
          have hmp : m < p := by rw [← hmm]; exact Nat.mod_lt _ (by omega)
          have hck := hc m hmp
          have HS := cycL_succ q p k
          rw [hmm] at HS
          have hsz := hbel.size
          generalize q[m]?.getD 0 = z at hck HS
          have HS : Hid (cycL q p k ++ [z] = cycL q p (k + 1)) := HS
          have hmI : (k : Int) % (p : Int) = (m : Int) := by rw [← hmm]; simp
          have hp0 : ((p : Int) = 0) = False := eq_false (by omega)
          have hkn : (k : Int) < n := by omega
          clear HH hc hmm
          go_wp2_with (at_builtin; refine wpList_append_one 27 2 Try.underlying27 info_int64 w.heap.size _ k _ _ hown (by omega) hsz rfl _ _ rfl rfl rfl ?_; rw [HS.out]; intro v' w10 hown2 hb2; have hb3 := hbel.trans hb2)
          go_roundw
          case rel => exact ⟨k + 1, by omega, by go_num, hown2, hb3⟩
          case measure => simp [intOf]; omega
        · obtain rfl : k = n := by omega
          obtain ⟨hown, hbel⟩ := HH.out
          obtain ⟨_, a2, c2, rfl, hnew⟩ := NewRow.of_owned hown
          have hlen := cycL_len q p k
          generalize cycL q p k = zs at hnew hlen
          have HX : Hid (∀ W, Below wr.heap.size wr W → Zs W a2 k zs) := fun W hW => (Zs.of_new hnew hlen).keep hW
          have HB : Hid (Below w.heap.size w wr) := hbel
          have HG : Hid (∀ M : Nat, M = d + 1 → goodLagsB k ((1 : Nat) : Int) (M : Int) = true) := fun M hM => by
            have := HN.out
            exact decide_eq_true (by omega)
          have HDD : Hid (1 + d = d + 1) := Nat.add_comm 1 d
          obtain ⟨A, hA⟩ : ∃ A, allL zs 1 (d + 1) = A := ⟨_, rfl⟩
          have HAT : Hid (∀ b i : Nat, i < b → (topL zs ((1 : Nat) : Int) b (d + 1))[i]?.getD (0, 0) = A[i]?.getD (0, 0)) := fun b i hi => by
            rw [← hA]
            exact topL_at hi
          have HNEXT : Hid (∀ i, i + 1 < d + 1 → (A[i + 1]?.getD (0, 0)).2 ≤ (A[i]?.getD (0, 0)).2 ∧ ((A[i + 1]?.getD (0, 0)).2 = (A[i]?.getD (0, 0)).2 → (A[i]?.getD (0, 0)).1 ≤ (A[i + 1]?.getD (0, 0)).1)) := fun i hi => by
            rw [← hA]
            exact allL_next (by decide) (by have := HN.out; omega) hi
          have HBEST : Hid (scoreI zs (p : Int) ≤ (A[0]?.getD (0, 0)).2) := by
            show _ ≤ _
            rw [← hA]
            exact allL_best (by decide) (by have := HN.out; omega) (by have := HN.out; omega) (by have := HN.out; omega)
          obtain ⟨ca, hca⟩ : ∃ c, min b (d + 1) = c := ⟨_, rfl⟩
          obtain ⟨cb, hcb⟩ : ∃ c, min (b + 1) (d + 1) = c := ⟨_, rfl⟩
          have HC : Hid (min 1 (d + 1) = 1 ∧ min b (d + 1) = ca ∧ min (b + 1) (d + 1) = cb) := ⟨by omega, hca, hcb⟩
          have HCN : Hid (0 < ca ∧ ca ≤ cb ∧ ca ≤ b ∧ cb ≤ b + 1 ∧ ca ≤ d + 1) := by
            have := HN.out
            refine ⟨by omega, by omega, by omega, by omega, by omega⟩
          have hcab : ((cb : Int) < (ca : Int)) = False := eq_false (by have := HCN.out; omega)
          have hb4 := Below.refl wr.heap.size wr
          have y1 : Hid True := trivial
          have y2 : Hid True := trivial
          have hbI : (b : Int) ≤ 31 := hg4
          clear HH hown hbel hnew hlen hA hca hcb hk
          go_wp2_with (first
            | (go_at_call 9; clear y1; go_loud (refine (search_ints a2 k c2 zs 1 (d + 1) 1 d _ _ _ rfl HD.out rfl _ (HX.out _ hb4) (HG.out _ rfl) (by decide) (by decide) HDD.out).mono ?_; rw [HC.out.1]; rintro e w5 ⟨r1, rfl, hr1, hb5⟩; replace hb4 := hb4.trans (hb5.mono hb4.size); clear hb5))
            | (go_at_call 9; clear y2; go_loud (refine (search_ints a2 k c2 zs 1 (d + 1) b d _ _ _ rfl HD.out rfl _ (HX.out _ hb4) (HG.out _ rfl) HN.out.2.2.1 (by have := HN.out; omega) HDD.out).mono ?_; rw [HC.out.2.1]; rintro e w6 ⟨r2, rfl, hr2, hb6⟩; replace hb4 := hb4.trans (hb6.mono hb4.size); replace hr1 := hr1.below hb6; clear hb6))
            | (go_at_call 9; go_loud (refine (search_ints a2 k c2 zs 1 (d + 1) (b + 1) d _ _ _ rfl HD.out rfl _ (HX.out _ hb4) (HG.out _ rfl) (by omega) (by have := HN.out; omega) HDD.out).mono ?_; rw [HC.out.2.2]; rintro e w7 ⟨r3, rfl, hr3, hb7⟩; replace hb4 := hb4.trans (hb7.mono hb4.size); replace hr1 := hr1.below hb7; replace hr2 := hr2.below hb7; clear hb7)))
          have HCE : Hid (∀ j, j < ca → (w7.cell? ⟨r2, j * 2, none⟩ = some (.int .i64 (A[j]?.getD (0, 0)).1) ∧ w7.cell? ⟨r2, j * 2 + 1, none⟩ = some (.int .i64 (A[j]?.getD (0, 0)).2)) ∧ w7.cell? ⟨r3, j * 2, none⟩ = some (.int .i64 (A[j]?.getD (0, 0)).1) ∧ w7.cell? ⟨r3, j * 2 + 1, none⟩ = some (.int .i64 (A[j]?.getD (0, 0)).2)) := fun j hj => by
            have h2 := hr2.cells hj
            have h3 := hr3.cells (i := j) (by have := HCN.out; omega)
            rw [HAT.out b j (by have := HCN.out; omega)] at h2
            rw [HAT.out (b + 1) j (by have := HCN.out; omega)] at h3
            exact ⟨h2, h3⟩
          have HC1 : Hid (∀ W, Below w7.heap.size w7 W → (W.cell? ⟨r1, 0, none⟩ = some (.int .i64 (A[0]?.getD (0, 0)).1) ∧ W.cell? ⟨r1, 1, none⟩ = some (.int .i64 (A[0]?.getD (0, 0)).2)) ∧ W.cell? ⟨r2, 0, none⟩ = some (.int .i64 (A[0]?.getD (0, 0)).1) ∧ W.cell? ⟨r2, 1, none⟩ = some (.int .i64 (A[0]?.getD (0, 0)).2)) := fun W hW => by
            have h1 := (hr1.below hW).cells (i := 0) (by decide)
            have h2 := (hr2.below hW).cells (i := 0) (by have := HCN.out; omega)
            rw [HAT.out 1 0 (by decide)] at h1
            rw [HAT.out b 0 (by have := HCN.out; omega)] at h2
            exact ⟨h1, h2⟩
          have HB7 : Hid (Below wr.heap.size wr w7) := hb4
          clear hr1 hr2 hr3 HAT hb4
          go_loopw [16] (fun y W => (∃ kk, W = w7.drewN kk) ∧ ∃ j : Nat, j ≤ ca ∧ y = .int .i64 j) (fun y _ => ca - (intOf y).toNat)
          case atStart => exact ⟨⟨0, rfl⟩, 0, Nat.zero_le _, rfl⟩
          case round =>
            obtain ⟨⟨kk, rfl⟩, j, hj, rfl⟩ := hrel
            by_cases hjc : j < ca
            · obtain ⟨⟨e0, e1⟩, e2, e3⟩ := HCE.out j hjc
              have hjI : (j : Int) < (ca : Int) := by omega
              have hjB : (j : Int) < (cb : Int) := by have := HCN.out; omega
              have hcaI : (ca : Int) ≤ 31 := by have := HCN.out; omega
              rcases Nat.eq_zero_or_pos j with rfl | hj0
              · generalize (A[0]?.getD (0, 0)).1 = z1 at e0 e2
                generalize (A[0]?.getD (0, 0)).2 = z2 at e1 e3
                clear HC1 HNEXT HBEST HCE
                go_wp2
                go_quiet (fail)
                go_wp2
                go_roundw
                case rel => exact ⟨⟨_, rfl⟩, 1, by omega, by go_num⟩
                case measure => simp [intOf]; omega
              · obtain ⟨m, rfl⟩ : ∃ m, j = m + 1 := ⟨j - 1, by omega⟩
                obtain ⟨⟨f0, f1⟩, f2, f3⟩ := HCE.out m (by omega)
                obtain ⟨hn1, hn2⟩ := HNEXT.out m (by have := HCN.out; omega)
                generalize (A[m + 1]?.getD (0, 0)).1 = z1 at *
                generalize (A[m + 1]?.getD (0, 0)).2 = z2 at *
                generalize (A[m]?.getD (0, 0)).1 = y1 at *
                generalize (A[m]?.getD (0, 0)).2 = y2 at *
                have hm0 : decide (0 < m + 1) = true := rfl
                have hmA : (m : Int) < (ca : Int) := by omega
                have HW : Hid (wrap64 (((m + 1 : Nat) : Int) - 1) = (m : Int)) := by
                  show _ = _
                  rw [show (((m + 1 : Nat) : Int) - 1) = (m : Int) by omega]
                  exact i64_wrap (by omega) (by omega)
                have hw := HW.out
                have hs1 : decide (y2 < z2) = false := decide_eq_false (by omega)
                by_cases heq : z2 = y2
                · have hl1 : decide (z1 < y1) = false := decide_eq_false (by have := hn2 heq; omega)
                  subst heq
                  clear HC1 HNEXT HBEST HCE hn1 hn2 hj0
                  go_wp2
                  go_quiet (fail)
                  go_wp2
                  go_roundw
                  case rel => exact ⟨⟨_, rfl⟩, m + 1 + 1, by omega, by go_num⟩
                  case measure => simp [intOf]; omega
                · have hse : (z2 == y2) = false := beq_eq_false_iff_ne.2 heq
                  clear HC1 HNEXT HBEST HCE hn1 hn2 hj0
                  go_wp2
                  go_quiet (fail)
                  go_wp2
                  go_roundw
                  case rel => exact ⟨⟨_, rfl⟩, m + 1 + 1, by omega, by go_num⟩
                  case measure => simp [intOf]; omega
            · obtain ⟨⟨e0, e1⟩, e2, e3⟩ := HC1.out w7 (Below.refl _ _)
              obtain ⟨sc, hsc⟩ : ∃ sc, scoreI zs (p : Int) = sc := ⟨_, rfl⟩
              have HSC : Hid (scoreI zs (p : Int) = sc) := hsc
              have HBE := HBEST.out
              rw [hsc] at HBE
              generalize (A[0]?.getD (0, 0)).1 = z1 at *
              generalize (A[0]?.getD (0, 0)).2 = z2 at *
              have hge : decide (sc ≤ z2) = true := decide_eq_true HBE
              have hca0 : (0 : Int) < (ca : Int) := by have := HCN.out; omega
              have hca1 : 0 < ca := HCN.out.1
              have hca2 : ((ca : Int) = 0) = False := eq_false (by omega)
              have HX7 : Hid (Zs (w7.drewN kk) a2 k zs ∧ k ≤ maxLen) := ⟨(HX.out _ HB7.out).keep (below_drewN (Below.refl _ _) kk), by have := HN.out; unfold maxLen; omega⟩
              clear HNEXT HBEST HCE hsc
              go_wp2
              go_region_held3 (fun W => (W.cell? ⟨r1, 0, none⟩ = some (.int .i64 z1) ∧ W.cell? ⟨r1, 1, none⟩ = some (.int .i64 z2)) ∧ W.cell? ⟨r2, 0, none⟩ = some (.int .i64 z1) ∧ W.cell? ⟨r2, 1, none⟩ = some (.int .i64 z2)) (first | (exact ⟨⟨by assumption, by assumption⟩, by assumption, by assumption⟩) | go_keep) (first
                | (go_at_call 11; go_loud (refine (Score_any a2 k c2 zs _ _ (by first | exact HX7.out.1.drew | exact HX7.out.1) HX7.out.2).mono ?_; rw [HSC.out]; rintro e w8 ⟨rfl, hb8⟩; have hb9 := (below_drewN HB7.out (kk + 1)).trans (hb8.mono (by exact HB7.out.size)); obtain ⟨⟨e0, e1⟩, e2, e3⟩ := HC1.out w8 ((below_drewN (Below.refl w7.heap.size w7) (kk + 1)).trans hb8))))
              all_goals
                go_wp2
                go_ret
                exact ⟨rfl, HB.out.trans (hb9.mono HB.out.size)⟩
    · have HG : Hid (¬ (4 * (p : Int) ≤ n ∧ n ≤ 600 ∧ 1 ≤ b ∧ b ≤ 31)) := hg
      clear hg
      go_enter Try.func5, Try.ntmps5
      go_wp2_with (go_at_call 8; refine (awake_any _).mono ?_; rintro e w1 ⟨rfl, hb1⟩; replace hb := hb.trans (hb1.mono hb.size); clear hb1)
      all_goals first
        | (exfalso; have := HG.out; omega)
        | (go_ret; exact ⟨rfl, hb⟩)
  · by_cases h1 : p < 2
    · clear hp
      go_enter Try.func5, Try.ntmps5
      go_wp2_with (go_at_call 8; refine (awake_any _).mono ?_; rintro e w1 ⟨rfl, hb1⟩; replace hb := hb.trans (hb1.mono hb.size); clear hb1)
      go_ret
      exact ⟨rfl, hb⟩
    · have h2 : 60 < p := by omega
      clear hp
      go_enter Try.func5, Try.ntmps5
      go_wp2_with (go_at_call 8; refine (awake_any _).mono ?_; rintro e w1 ⟨rfl, hb1⟩; replace hb := hb.trans (hb1.mono hb.size); clear hb1)
      go_ret
      exact ⟨rfl, hb⟩

end Go.Proofs.Ytamiokleolfnoaa
