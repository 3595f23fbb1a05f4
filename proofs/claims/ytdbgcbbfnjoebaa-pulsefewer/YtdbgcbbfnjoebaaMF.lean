/- Texts put together: PulseO PulseP PulseR. -/
import Derived.Test.YtdbgcbbfnjoebaaMD
/- Package pulse: pulses of one block are left out. -/
namespace Go.Proofs.Ytdbgcbbfnjoebaa
open Go.RowKit

theorem small_of_take {X : List Int} (h : Small X) (k : Nat) : Small (X.take k) := h.take k

theorem decK_small : ∀ (k : Nat) (X : List Int), Small X → (k : Int) ≤ pulsesN X → ∀ j : Nat, absI ((decK k X)[j]?.getD 0) ≤ 16 := fun k X hs hk j => by
  have h1 := decK_at k X hk j
  have h2 : -16 ≤ X[j]?.getD 0 ∧ X[j]?.getD 0 ≤ 16 := by
    rcases Nat.lt_or_ge j X.length with h | h
    · exact hs.at h
    · rw [List.getElem?_eq_none h]; decide
  unfold Lessened at h1
  unfold absI
  split <;> omega

theorem hp_made (w : World) (e : Nat → Sam) : Hp w.heap.size (w.heap.size + 1) 0 e ((w.alloc (.cells #[] 84)).alloc (.cells #[.slice (some ⟨w.heap.size, 0, none⟩) 0 0] 81)) := by
  have h1 : (w.alloc (.cells #[] 84)).heap.size = w.heap.size + 1 := by simp
  refine ⟨.slice (some ⟨w.heap.size, 0, none⟩) 0 0, ⟨?_, by omega, ⟨rfl, .inr ⟨w.heap.size, 0, #[], rfl, Nat.le_refl _, ?_, Nat.le_refl _, Nat.zero_le _, rfl, rfl⟩⟩, ?_⟩⟩
  · have := heap_alloc_new (w.alloc (.cells #[] 84)) (.cells #[.slice (some ⟨w.heap.size, 0, none⟩) 0 0] 81)
    rw [h1] at this
    exact this
  · rw [Below.heap_alloc _ _ _ (by omega)]
    exact heap_alloc_new w _
  · intro h
    simp [Value.ownBlock] at h

/-- The row while the samples are laid back into it. -/
def backL (t : Nat → Nat) (D X : List Int) (n j : Nat) : List Int := (List.range n).map fun i => if t i < j then D[i]?.getD 0 else X[i]?.getD 0
theorem backL_len (t : Nat → Nat) (D X : List Int) (n j : Nat) : (backL t D X n j).length = n := by unfold backL; rw [List.length_map, List.length_range]
theorem backL_at (t : Nat → Nat) (D X : List Int) {n i : Nat} (j : Nat) (h : i < n) : (backL t D X n j)[i]? = some (if t i < j then D[i]?.getD 0 else X[i]?.getD 0) := by
  unfold backL
  rw [List.getElem?_map, List.getElem?_range h]
  rfl
theorem getD_some {l : List Int} {i : Nat} (h : i < l.length) : l[i]? = some (l[i]?.getD 0) := by rw [List.getElem?_eq_getElem h]; rfl
theorem backL_none {t : Nat → Nat} {D X : List Int} {n : Nat} (h : X.length = n) : backL t D X n 0 = X := by
  apply List.ext_getElem?
  intro i
  rcases Nat.lt_or_ge i n with hi | hi
  · rw [backL_at t D X 0 hi, if_neg (Nat.not_lt_zero _), ← getD_some (by omega)]
  · rw [List.getElem?_eq_none (by rw [backL_len]; exact hi), List.getElem?_eq_none (by omega)]
theorem backL_all {t : Nat → Nat} {D X : List Int} {n : Nat} (h : D.length = n) (ht : ∀ i, i < n → t i < n) : backL t D X n n = D := by
  apply List.ext_getElem?
  intro i
  rcases Nat.lt_or_ge i n with hi | hi
  · rw [backL_at t D X n hi, if_pos (ht i hi), ← getD_some (by omega)]
  · rw [List.getElem?_eq_none (by rw [backL_len]; exact hi), List.getElem?_eq_none (by omega)]
theorem backL_step {s t : Nat → Nat} {D X : List Int} {n j : Nat} (hp : ∀ k, k < n → s k < n ∧ t k < n ∧ s (t k) = k ∧ t (s k) = k) (hj : j < n) : backL t D X n (j + 1) = (backL t D X n j).set (s j) (D[s j]?.getD 0) := by
  apply List.ext_getElem?
  intro i
  rcases Nat.lt_or_ge i n with hi | hi
  · rw [backL_at t D X (j + 1) hi]
    by_cases h : s j = i
    · subst h
      rw [List.getElem?_set_self (by rw [backL_len]; exact hi), if_pos (by rw [(hp j hj).2.2.2]; exact Nat.lt_succ_self j)]
    · rw [List.getElem?_set_ne h, backL_at t D X j hi]
      have : t i ≠ j := fun e => h (by rw [← e]; exact (hp i hi).2.2.1)
      by_cases h2 : t i < j
      · rw [if_pos h2, if_pos (by omega)]
      · rw [if_neg h2, if_neg (by omega)]
  · rw [List.getElem?_eq_none (by rw [backL_len]; exact hi), List.getElem?_eq_none (by rw [List.length_set, backL_len]; exact hi)]

theorem heapRound_any {B p n : Nat} {e : Nat → Sam} {D : List Int} (h : HOk e D) (hl : D.length = n + 1) (hn : n ≤ 100) (h0 : 0 < pulsesN D) (hb : ∀ j : Nat, absI (D[j]?.getD 0) ≤ 16) : ∃ (q y : Int) (eD : Nat → Sam), 1 ≤ y ∧ y ≤ 16 ∧ HOk (roundF e n) (decI D) ∧
    (∀ W, Hp B p (n + 1) e W → Calls Try.prog 60 #[.iface 79 (.pointer (some ⟨p, 0, none⟩))] W fun e' w' => e' = .returned (.iface 84 (.agg #[.int .i64 q, .int .i64 y])) ∧ Hp B p n eD w' ∧ Below B W w') ∧
    ∀ W, Hp B p n eD W → Calls Try.prog 58 #[.iface 79 (.pointer (some ⟨p, 0, none⟩)), .iface 84 (.agg #[.int .i64 q, .int .i64 (y - 1)])] W fun e' w' => e' = .returned (.tuple #[]) ∧ Hp B p (n + 1) (roundF e n) w' ∧ Below B W w' := by
  have hpl := h.pl (by omega)
  rw [hl] at hpl
  have htop := h.root (by omega) (by omega)
  obtain ⟨_, ht, hp⟩ := top_pos h0
  have hlast := popF_last e n
  have hsp : Pl (n + 1) (downF keyS n (swapF e 0 n) 0 n).1 := by
    have hsw := hpl.swap (Nat.succ_pos n) (Nat.lt_succ_self n)
    rcases Nat.eq_zero_or_pos n with rfl | hn0
    · exact hsw
    · obtain ⟨⟨u, v, k1, k2⟩, k3⟩ := down_shuf keyS n n 0 (swapF e 0 n) hn0
      intro k hk
      rcases Nat.lt_or_ge k n with hkn | hkn
      · rw [k2 k hkn]; exact hsw _ (by have := (k1 k hkn).1; omega)
      · rw [k3 k hkn]; exact hsw k hk
  refine ⟨((topN D D.length : Nat) : Int), absI (D[topN D D.length]?.getD 0), (downF keyS n (swapF e 0 n) 0 n).1, by omega, hb _, h.round hl (by omega) h0, fun W hW => ?_, fun W hW => ?_⟩
  · have := heapPop_any hW hpl (by omega)
    rw [hlast, htop] at this
    exact this
  · have := heapPush_any hW (fun k hk => hsp k (by omega)) (by omega) ((topN D D.length : Nat) : Int) (absI (D[topN D D.length]?.getD 0) - 1) (by omega)
    have e1 : roundF e n = pushF (downF keyS n (swapF e 0 n) 0 n).1 n (((topN D D.length : Nat) : Int), absI (D[topN D D.length]?.getD 0) - 1) := by
      unfold roundF
      rw [hlast, htop]
    rw [e1]
    exact this

set_option maxRecDepth 100000 in
set_option maxHeartbeats 3200000 in
theorem leaveOut_any (g B : Nat) (A X C : List Int) (n o cap : Nat) (most : Int) (w : World) (hr : NewRow 2 B w (some ⟨g, 0, none⟩) (A ++ (X ++ C))) (ho : o = A.length) (hl : X.length = n) (hn0 : 0 < n) (hn : n ≤ 16) (hcap : n ≤ cap) (hs : Small X) (hm0 : 0 ≤ most) (hm1 : most ≤ 16) :
    Calls Try.prog 34 #[.slice (some ⟨g, o, none⟩) n cap, .int .i64 most] w fun e w' => e = .returned (.tuple #[]) ∧ NewRow 2 B w' (some ⟨g, 0, none⟩) (A ++ (fewB most X ++ C)) ∧ Went (fun k => k = g) w (fun k => k = g) w' := by
  have hgw := (hr.ge (by rw [List.length_append, List.length_append]; omega)).2
  have HX : Hid (NewRow 2 B w (some ⟨g, 0, none⟩) (A ++ (X ++ C)) ∧ o = A.length ∧ X.length = n ∧ 0 < n ∧ n ≤ 16 ∧ Small X ∧ 0 ≤ most ∧ most ≤ 16) := ⟨hr, ho, hl, hn0, hn, hs, hm0, hm1⟩
  have HSG : Hid (Sg w g o X) := fun i hi => by
    have := hr.cellAt (seg_len A X C hi)
    rw [seg_at A X C hi] at this
    rw [ho]
    exact this
  have hnI : (n : Int) ≤ 16 := by omega
  have HCAP : Hid (n ≤ cap) := hcap
  clear hr ho hl hn0 hn hcap hs
  go_enter Try.func34, Try.ntmps34
  go_wp2
  go_loopw [15] (fun x W => ∃ (j : Nat) (e : Nat → Sam), j ≤ n ∧ x = .int .i64 j ∧ Hp w.heap.size (w.heap.size + 1) j e W ∧ Below w.heap.size w W ∧ Hid (HOk e (X.take j))) (fun x _ => n - (intOf x).toNat)
  case atStart => exact ⟨0, fun _ => (0, 0), Nat.zero_le _, rfl, hp_made w _, ((Below.refl _ _).alloc (Nat.le_refl _) _).alloc (by simp) _, HOk.nil _⟩
  case round =>
    obtain ⟨j, e, hj, rfl, hh, hb, HE⟩ := hrel
    by_cases hlt : j < n
    · have q3 := HX.out.2.2.1
      have q5 := HX.out.2.2.2.2.1
      have q6 := HX.out.2.2.2.2.2.1
      have hcell := (HSG.out.of_block (hb.block g hgw)) j (by omega)
      have hxb := q6.at (i := j) (by omega)
      have hlen : (X.take j).length = j := by rw [List.length_take]; omega
      have hpush := HE.out.laid (X[j]?.getD 0)
      rw [hlen] at hpush
      have etk : X.take j ++ [X[j]?.getD 0] = X.take (j + 1) := by rw [List.take_add_one, getD_some (by omega)]; rfl
      rw [etk] at hpush
      have hpl := HE.out.pl (by omega)
      rw [hlen] at hpl
      generalize X[j]?.getD 0 = x at hcell hxb hpush
      obtain ⟨y, hy⟩ : ∃ y, absI x = y := ⟨_, rfl⟩
      have HU : Hid (∀ W, Calls Try.prog 59 #[.int .i64 x] W fun e' w' => e' = .returned (.int .i64 y) ∧ w' = W) := fun W => by
        have := unsigned_any x W (by omega) (by omega)
        rw [hy] at this
        exact this
      rw [hy] at hpush
      have HPU : Hid (∀ W, Hp w.heap.size (w.heap.size + 1) j e W → Calls Try.prog 58 #[.iface 79 (.pointer (some ⟨w.heap.size + 1, 0, none⟩)), .iface 84 (.agg #[.int .i64 (j : Int), .int .i64 y])] W fun e' w' => e' = .returned (.tuple #[]) ∧ Hp w.heap.size (w.heap.size + 1) (j + 1) (pushF e j ((j : Int), y)) w' ∧ Below w.heap.size W w') := fun W hW => heapPush_any hW hpl (by omega) (j : Int) y (by omega)
      have HN : Hid (HOk (pushF e j ((j : Int), y)) (X.take (j + 1))) := hpush
      clear q3 q5 q6 hxb hlen hpush etk hpl hy HE
      go_wp2_with (first
        | (go_at_call 59; refine (HU.out _).mono ?_; rintro e' w' ⟨rfl, rfl⟩)
        | (go_at_call 58; go_loud (refine (HPU.out _ hh).mono ?_; rintro e' w2 ⟨rfl, hh2, hb2⟩)))
      go_roundw
      case rel => exact ⟨j + 1, _, by omega, by go_num, hh2, hb.trans hb2, HN.out⟩
      case measure => simp [intOf]; omega
    · obtain rfl : j = n := by omega
      clear hlt hj
      have HTG : Hid (∀ W, Below w.heap.size w W → Calls Try.prog 52 #[.slice (some ⟨g, o, none⟩) j cap] W fun e' w' => e' = .returned (.int .i64 (pulsesN X)) ∧ w' = W) := fun W hW =>
        together_any g o j cap X W (HSG.out.of_block (hW.block g hgw)) HX.out.2.2.1 (by have := HX.out.2.2.2.2.1; omega) HX.out.2.2.2.2.2.1
      have HE0 : Hid (HOk e X) := by
        have := HE.out
        rw [List.take_of_length_le (by have := HX.out.2.2.1; omega)] at this
        exact this
      have HPN : Hid (0 ≤ pulsesN X ∧ pulsesN X ≤ 256) := ⟨pulsesN_nonneg X, by have := pulsesN_few HX.out.2.2.2.2.2.1; have := HX.out.2.2.1; have := HX.out.2.2.2.2.1; omega⟩
      obtain ⟨PX, hPX⟩ : ∃ PX, pulsesN X = PX := ⟨_, rfl⟩
      rw [hPX] at HTG HPN
      have HPX : Hid (pulsesN X = PX) := hPX
      clear HE hPX
      go_wp2_with (go_at_call 52; go_loud (refine (HTG.out _ hb).mono ?_; rintro e' w' ⟨rfl, rfl⟩))
      go_loopw [7] (fun x W => ∃ (k : Nat) (v : Int) (e : Nat → Sam), x = .int .i64 v ∧ Hp w.heap.size (w.heap.size + 1) j e W ∧ Below w.heap.size w W ∧ Hid (v = PX - k ∧ 0 ≤ v ∧ (k = 0 ∨ most ≤ v) ∧ v ≤ 256 ∧ HOk e (decK k X))) (fun x _ => (intOf x).toNat)
      case atStart => exact ⟨0, PX, e, rfl, hh, hb, by omega, HPN.out.1, .inl rfl, HPN.out.2, HE0.out⟩
      case round =>
        clear hh hb
        obtain ⟨k, v, e, rfl, hh, hb, HV⟩ := hrel
        by_cases hgt : most < v
        · obtain ⟨v1, v2, v3, v4, v5⟩ := HV.out
          obtain ⟨m, hm⟩ : ∃ m, j = m + 1 := ⟨j - 1, by have := HX.out.2.2.2.1; omega⟩
          have hkP : (k : Int) ≤ pulsesN X := by have := HPX.out; omega
          have hpd := pulsesN_decK k X hkP
          obtain ⟨q, y, eD, y1, y2, y3, y4, y5⟩ := heapRound_any (B := w.heap.size) (p := w.heap.size + 1) v5 (by rw [decK_len, HX.out.2.2.1, hm]) (by have := HX.out.2.2.2.2.1; omega) (by have := HPX.out; have := HX.out.2.2.2.2.2.2.1; omega) (decK_small k X HX.out.2.2.2.2.2.1 hkP)
          rw [← decK_step] at y3
          have HPO : Hid (∀ W, Hp w.heap.size (w.heap.size + 1) j e W → Calls Try.prog 60 #[.iface 79 (.pointer (some ⟨w.heap.size + 1, 0, none⟩))] W fun e' w' => e' = .returned (.iface 84 (.agg #[.int .i64 q, .int .i64 y])) ∧ Hp w.heap.size (w.heap.size + 1) m eD w' ∧ Below w.heap.size W w') := fun W hW => y4 W (by rw [← hm]; exact hW)
          have HPU : Hid (∀ W, Hp w.heap.size (w.heap.size + 1) m eD W → Calls Try.prog 58 #[.iface 79 (.pointer (some ⟨w.heap.size + 1, 0, none⟩)), .iface 84 (.agg #[.int .i64 q, .int .i64 (y - 1)])] W fun e' w' => e' = .returned (.tuple #[]) ∧ Hp w.heap.size (w.heap.size + 1) j (roundF e m) w' ∧ Below w.heap.size W w') := fun W hW => by
            have := y5 W hW
            rw [← hm] at this
            exact this
          have HN : Hid (v - 1 = PX - (k + 1 : Nat) ∧ 0 ≤ v - 1 ∧ (k + 1 = 0 ∨ most ≤ v - 1) ∧ v - 1 ≤ 256 ∧ HOk (roundF e m) (decK (k + 1) X)) := ⟨by omega, by have := HX.out.2.2.2.2.2.2.1; omega, .inr (by omega), by omega, y3⟩
          have HT := assert_sam q y
          have hvm : wrap64 (v - 1) = v - 1 := wrap_n (by omega) (by omega)
          have hym : wrap64 (y - 1) = y - 1 := wrap_n (by omega) (by omega)
          clear v1 v2 v3 v4 v5 hm hkP hpd y3 y4 y5 HV
          go_wp2_with (first
            | (go_at_call 60; go_loud (refine (HPO.out _ hh).mono ?_; rintro e' w2 ⟨rfl, hh2, hb2⟩; have hsz := (hb.trans hb2).size))
            | (go_at_call 58; go_loud (refine (HPU.out _ (hh2.keep ((Below.refl _ _).alloc (Nat.le_refl _) _))).mono ?_; rintro e' w3 ⟨rfl, hh3, hb3⟩)))
          go_roundw
          case rel => exact ⟨k + 1, v - 1, _, by rw [hvm], hh3, ((hb.trans hb2).alloc hsz _).trans hb3, HN.out⟩
          case measure => simp [intOf, hvm]; have := HX.out.2.2.2.2.2.2.1; omega
        · obtain ⟨v1, v2, v3, v4, v5⟩ := HV.out
          have hkP : (k : Int) ≤ pulsesN X := by have := HPX.out; omega
          have hkk : k = (pulsesN X - most).toNat := by have := HPX.out; omega
          have HF : Hid (fewB most X = decK k X) := by show decK _ X = _; rw [← hkk]
          obtain ⟨D, hD⟩ : ∃ D, decK k X = D := ⟨_, rfl⟩
          have HD : Hid (fewB most X = D ∧ D.length = j ∧ (∀ i : Nat, Lessened (X[i]?.getD 0) (D[i]?.getD 0)) ∧ ∀ i : Nat, absI (D[i]?.getD 0) ≤ 16) :=
            ⟨by rw [HF.out, hD], by rw [← hD, decK_len]; exact HX.out.2.2.1, fun i => by rw [← hD]; exact decK_at k X hkP i, fun i => by rw [← hD]; exact decK_small k X HX.out.2.2.2.2.2.1 hkP i⟩
          rw [hD] at v5
          obtain ⟨s, t, p1, p2⟩ := v5.held
          rw [HD.out.2.1] at p1 p2
          have HP : Hid (∀ k, k < j → s k < j ∧ t k < j ∧ s (t k) = k ∧ t (s k) = k) := p1
          have HE : Hid (∀ k, k < j → e k = ((s k : Int), absI (D[s k]?.getD 0))) := p2
          obtain ⟨hv, hhv⟩ := hh
          obtain ⟨hg, hcp, rfl, hne, hrw⟩ := hhv.inRow HX.out.2.2.2.1
          have k0 := hhv.at
          have hgg : w.heap.size ≤ hg := by obtain ⟨_, h1, _⟩ := hrw.block; exact h1
          have HRW : Hid (SRow w.heap.size wr hg j hcp e) := hrw
          have HR0 : Hid (NewRow 2 B wr (some ⟨g, 0, none⟩) (A ++ (backL t D X j 0 ++ C)) ∧ Went (fun k => k = g) w (fun k => k = g) wr ∧ hg < wr.heap.size) := by
            refine ⟨?_, ⟨hb.os, hb.tape, hb.output, hb.size, fun k hk _ => hb.block k hk, fun _ h => .inl h⟩, hrw.lt⟩
            rw [backL_none HX.out.2.2.1]
            exact HX.out.1.keep hb
          clear v1 v2 v3 v4 v5 hkP hkk HF hD p1 p2 HV HE0 hrw hhv hne hb
          go_wp2
          go_loopw [53] (fun x W => ∃ i : Nat, i ≤ j ∧ x = .int .i64 i ∧ NewRow 2 B W (some ⟨g, 0, none⟩) (A ++ (backL t D X j i ++ C)) ∧ SRow w.heap.size W hg j hcp e ∧ Went (fun k => k = g) w (fun k => k = g) W) (fun x _ => j - (intOf x).toNat)
          case atStart => exact ⟨0, Nat.zero_le _, rfl, HR0.out.1, HRW.out, HR0.out.2.1⟩
          case round =>
            obtain ⟨i, hi, rfl, hr, hsr, hW⟩ := hrel
            by_cases hlt : i < j
            · obtain ⟨c0, c1⟩ := hsr.cells hlt
              have he := HE.out i hlt
              obtain ⟨p1, p2, p3, p4⟩ := HP.out i hlt
              have hlen := backL_len t D X j i
              have hcell := hr.cellAt (seg_len A (backL t D X j i) C (j := s i) (by omega))
              rw [seg_at A _ C (by omega), backL_at t D X i p1, if_neg (by omega)] at hcell
              have hfz := hr.frozenAt (by have := seg_len A (backL t D X j i) C (j := s i) (by omega); omega) (A.length + s i)
              rw [← HX.out.2.1] at hcell hfz
              rw [he] at c0 c1
              obtain ⟨q, hq⟩ : ∃ q, s i = q := ⟨_, rfl⟩
              rw [hq] at hcell hfz c0 c1 p1
              obtain ⟨x, hx⟩ : ∃ x, X[q]?.getD 0 = x := ⟨_, rfl⟩
              obtain ⟨d, hd⟩ : ∃ d, D[q]?.getD 0 = d := ⟨_, rfl⟩
              have hsg := sign_is (HD.out.2.2.1 q)
              have hdb := HD.out.2.2.2 q
              rw [hx, hd] at hsg
              rw [hd] at c1 hdb
              replace hcell : wr.cell? ⟨g, o + q, none⟩ = some (.int .i64 x) := by rw [hcell, ← hx]; rfl
              replace c0 : wr.cell? ⟨hg, i * 2, none⟩ = some (.int .i64 (q : Int)) := c0
              replace c1 : wr.cell? ⟨hg, i * 2 + 1, none⟩ = some (.int .i64 (absI d)) := c1
              obtain ⟨y, hy⟩ : ∃ y, absI d = y := ⟨_, rfl⟩
              have hy0 := absI_nonneg d
              rw [hy] at c1 hsg hdb hy0
              have HWS : Hid (∀ W, Calls Try.prog 61 #[.int .i64 y, .int .i64 x] W fun e' w' => e' = .returned (.int .i64 d) ∧ w' = W) := fun W => by
                have := withSign_any y x W (by omega) (by omega)
                rw [hsg] at this
                exact this
              have HST : Hid (∀ W, NewRow 2 B W (some ⟨g, 0, none⟩) (A ++ (backL t D X j i ++ C)) → NewRow 2 B (W.setCell ⟨g, o + q, none⟩ (.int .i64 d)) (some ⟨g, 0, none⟩) (A ++ (backL t D X j (i + 1) ++ C))) := fun W hW => by
                have := hW.set (A.length + q) d
                rw [seg_set A _ C (by omega), ← hd, ← hq, ← backL_step HP.out hlt] at this
                rw [HX.out.2.1, ← hd, ← hq]
                exact this
              have HF : Hid (NewRow 2 B wr (some ⟨g, 0, none⟩) (A ++ (backL t D X j i ++ C)) ∧ SRow w.heap.size wr hg j hcp e ∧ Went (fun k => k = g) w (fun k => k = g) wr ∧ g < wr.heap.size ∧ g ≠ hg) := ⟨hr, hsr, hW, Nat.lt_of_lt_of_le hgw hW.size, by omega⟩
              have hgl : g < wr.heap.size := HF.out.2.2.2.1
              have hq1 : (q : Int) < j := by omega
              have HC : ∀ ob, (wr.alloc ob).cell? ⟨g, o + q, none⟩ = some (.int .i64 x) := fun ob => (World.cell?_of_block (w := wr) (Below.heap_alloc wr ob g hgl)).trans hcell
              have HFZ : ∀ ob, (wr.alloc ob).frozen? ⟨g, o + q, none⟩ = false := fun ob => (World.frozen?_of_block (w := wr) (Below.heap_alloc wr ob g hgl)).trans hfz
              clear hr hsr hW he p1 p2 p3 p4 hlen hq hx hd hsg hdb hy hy0 HP HE HD
              go_wp2
              refine wp_region_last (by kernel_rfl) (by kernel_rfl) (by rfl) (by kernel_rfl) ?_
              dsimp only [List.dropLast]
              repeat (quiet_step (first | (go_at_call 61; exact Calls.quiet_of_same (HWS.out _))))
              refine wpQuiet_nil ?_
              rintro _ ⟨nq, rfl⟩
              go_simp
              go_wp2
              go_roundw
              case rel =>
                obtain ⟨f1, f2, f3, f4, f5⟩ := HF.out
                have hba : Below wr.heap.size wr ((wr.alloc (.cells #[.int .i64 (q : Int), .int .i64 y] 84)).drewN nq) := below_drewN ((Below.refl _ _).alloc (Nat.le_refl _) _) nq
                refine ⟨i + 1, by omega, by go_num, HST.out _ (f1.keep hba), ?_, (f3.keep hba).set rfl _ _⟩
                refine SRow.keep (f2.keep (hba.block hg f2.lt)) ?_
                exact Below.heap_setCell _ ⟨g, o + q, none⟩ _ hg (fun e => f5 e.symm)
              case measure => simp [intOf]; omega
            · obtain rfl : i = j := by omega
              go_wp2
              go_end0
              rw [backL_all HD.out.2.1 (fun k hk => (HP.out k hk).2.1)] at hr
              rw [HD.out.1]
              exact ⟨rfl, hr, hW⟩

end Go.Proofs.Ytdbgcbbfnjoebaa

/- Package pulse: Fewer. -/
namespace Go.Proofs.Ytdbgcbbfnjoebaa
open Go.RowKit

def cl16 (x : Int) : Int := clampI x (-16) 16
theorem cl16_in (x : Int) : -16 ≤ cl16 x ∧ cl16 x ≤ 16 := by
  unfold cl16 clampI
  split <;> (try split) <;> (try split) <;> omega

/-- Block by block at most t pulses. -/
def fewsL (t : Int) : Nat → List Int → List Int
  | 0, _ => []
  | m + 1, l => fewB t (l.take 16) ++ fewsL t m (l.drop 16)

theorem fewsL_snoc (t : Int) : ∀ (m : Nat) (l : List Int), fewsL t (m + 1) l = fewsL t m l ++ fewB t ((l.drop (16 * m)).take 16)
  | 0, l => by
    show fewB t (l.take 16) ++ [] = [] ++ fewB t ((l.drop 0).take 16)
    rw [List.append_nil, List.nil_append, List.drop_zero]
  | m + 1, l => by
    show fewB t (l.take 16) ++ fewsL t (m + 1) (l.drop 16) = (fewB t (l.take 16) ++ fewsL t m (l.drop 16)) ++ _
    rw [fewsL_snoc t m (l.drop 16), List.append_assoc, List.drop_drop, show 16 + 16 * m = 16 * (m + 1) by omega]

theorem fewsL_len (t : Int) : ∀ (m : Nat) (l : List Int), l.length ≤ 16 * m → (fewsL t m l).length = l.length
  | 0, l, h => by show 0 = l.length; omega
  | m + 1, l, h => by
    have := fewsL_len t m (l.drop 16) (by rw [List.length_drop]; omega)
    show (fewB t (l.take 16) ++ fewsL t m (l.drop 16)).length = _
    rw [List.length_append, fewB_len, this, List.length_take, List.length_drop]
    omega
theorem fewsL_lenTo (t : Int) : ∀ (m : Nat) (l : List Int), 16 * m ≤ l.length → (fewsL t m l).length = 16 * m
  | 0, l, h => rfl
  | m + 1, l, h => by
    have := fewsL_lenTo t m (l.drop 16) (by rw [List.length_drop]; omega)
    show (fewB t (l.take 16) ++ fewsL t m (l.drop 16)).length = _
    rw [List.length_append, fewB_len, this, List.length_take]
    omega

theorem elem_ints : Try.prog.underlying 23 = some (.slice (Try.prog.elem 23)) := by kernel_rfl
theorem size_ints (W : World) : (sizeOf (Try.prog.elem 23)).run Try.prog W = .ok 1 W := by kernel_rfl

/-- 'l[lo:hi]', lo below the end. -/
theorem slice_mid (g n cap lo hi z : Nat) (h2 : lo ≤ hi) (h3 : hi ≤ cap) (hz : z = hi - lo) (hlt : lo < cap) : (∀ W, (Instr.slice 23 (.slice (some ⟨g, 0, none⟩) n cap) (some (.int .i64 (lo : Int))) (some (.int .i64 (hi : Int))) none).run Try.prog W = .ok (.slice (some ⟨g, lo, none⟩) z (cap - lo)) W) ∧
    ∀ W, (Instr.sliceAt 23 (.slice (some ⟨g, 0, none⟩) n cap) (some (.int .i64 (lo : Int))) (some (.int .i64 (hi : Int))) none).run Try.prog W = .ok (.slice (some ⟨g, lo, none⟩) z (cap - lo)) W := by
  have hr : ∀ W, (Instr.slice 23 (.slice (some ⟨g, 0, none⟩) n cap) (some (.int .i64 (lo : Int))) (some (.int .i64 (hi : Int))) none).run Try.prog W = .ok (.slice (some ⟨g, lo, none⟩) z (cap - lo)) W := fun W => by
    rw [run_slice_lh (P := Try.prog) (w := W) 23 (some ⟨g, 0, none⟩) n cap elem_ints .i64 .i64 lo hi (by omega) (by omega) (by omega), size_ints]
    show Result.ok (sliced _ _ _ _ 1) W = _
    unfold sliced
    rw [Int.toNat_natCast, Int.toNat_natCast, hz, if_neg (by omega)]
    simp [Addr.add]
    exact fun h => h.symm
  exact ⟨hr, fun W => by rw [run_sliceAt_slice (P := Try.prog) (w := W) (h := elem_ints)]; exact hr W⟩

def fewerL (most : Int) (zs : List Int) : List Int := fewsL (clampI most 0 16) ((zs.length + 15) / 16) (zs.map cl16)

theorem fewer_far (a : Option Addr) (n cap : Nat) (most : Int) (w : World) (h : 480 < n) :
    Calls Try.prog 16 #[.slice a n cap, .int .i64 most] w fun e w' => e = .returned (.slice none 0 0) ∧ w' = w := by
  have h1 : (480 : Int) < n := by omega
  clear h
  go_enter Try.func16, Try.ntmps16
  go_wp2
  go_ret
  exact ⟨rfl, rfl⟩

set_option maxRecDepth 100000 in
set_option maxHeartbeats 1600000 in
theorem fewer_any (a : Option Addr) (n cap : Nat) (most : Int) (zs : List Int) (w : World) (hz : Zs w a n zs) (hn : n ≤ 480) :
    Calls Try.prog 16 #[.slice a n cap, .int .i64 most] w fun e w' => e = .returned (.slice (some ⟨w.heap.size, 0, none⟩) n n) ∧ NewRow 2 w.heap.size w' (some ⟨w.heap.size, 0, none⟩) (fewerL most zs) ∧ Below w.heap.size w w' := by
  have hl := hz.len
  have HX : Hid (Zs w a n zs ∧ zs.length = n ∧ n ≤ 480) := ⟨hz, hl, hn⟩
  obtain ⟨D, hD⟩ : ∃ D, zs.map cl16 = D := ⟨_, rfl⟩
  obtain ⟨t, ht⟩ : ∃ t, clampI most 0 16 = t := ⟨_, rfl⟩
  have HD : Hid (D.length = n ∧ (∀ k : Nat, k < n → D[k]?.getD 0 = cl16 (zs[k]?.getD 0)) ∧ Small D) := by
    rw [← hD]
    refine ⟨by rw [List.length_map, hl], fun k hk => ?_, fun x hx => ?_⟩
    · rw [List.getElem?_map, List.getElem?_eq_getElem (by omega)]
      rfl
    · obtain ⟨y, _, rfl⟩ := List.mem_map.1 hx
      exact cl16_in y
  have HF : Hid (fewerL most zs = fewsL t ((n + 15) / 16) D) := by
    show fewsL (clampI most 0 16) ((zs.length + 15) / 16) (zs.map cl16) = _
    rw [hD, ht, hl]
  have HT : Hid (clampI most 0 16 = t ∧ 0 ≤ t ∧ t ≤ 16) := by
    refine ⟨ht, ?_⟩
    rw [← ht]
    unfold clampI
    split <;> (try split) <;> (try split) <;> omega
  have hnI : (n : Int) ≤ 480 := by omega
  have hmk := fun W : World => run_make_row' (P := Try.prog) 23 2 (.int .i64 0) 8 Try.underlying23 info_int64 rfl .i64 .i64 n (by omega) (by omega) W
  have HMK : Hid (NewRow 2 w.heap.size (w.alloc (.cells (madeCells #[.int .i64 0] n) 2)) (some ⟨w.heap.size, 0, none⟩) (List.replicate n 0)) := NewRow.made w n
  clear hz hl hn hD ht
  go_enter Try.func16, Try.ntmps16
  go_wp2
  go_loopw [17] (fun x W => ∃ k : Nat, k ≤ n ∧ x = .int .i64 k ∧ NewRow 2 w.heap.size W (some ⟨w.heap.size, 0, none⟩) (mixL D (List.replicate n 0) k) ∧ Below w.heap.size w W) (fun x _ => n - (intOf x).toNat)
  case atStart => exact ⟨0, Nat.zero_le _, rfl, HMK.out, (Below.refl _ _).alloc (Nat.le_refl _) _⟩
  case round =>
    obtain ⟨k, hk, rfl, hr, hb⟩ := hrel
    have q1 := HD.out.1
    have q2 : (List.replicate n (0 : Int)).length = n := by rw [List.length_replicate]
    by_cases hlt : k < n
    · obtain ⟨b, off, rfl, hbl, hc⟩ := HX.out.1.at_ (by omega)
      have hcell := (hb.cell (p := ⟨b, off + k, none⟩) hbl).trans (hc k hlt)
      have hml := mixL_len q1 q2 (m := k) (by omega)
      have hwc := hr.cellAt (i := k) (by omega)
      have hwf := hr.frozenAt (by omega) k
      have hd := HD.out.2.1 k hlt
      have HST : Hid (NewRow 2 w.heap.size (wr.setCell ⟨w.heap.size, k, none⟩ (.int .i64 (cl16 (zs[k]?.getD 0)))) (some ⟨w.heap.size, 0, none⟩) (mixL D (List.replicate n 0) (k + 1))) := by
        rw [mixL_step q1 q2 hlt, hd]
        exact hr.set k _
      generalize zs[k]?.getD 0 = x at hcell HST
      have HCL : Hid (∀ W, Calls Try.prog 33 #[.int .i64 x, .int .i64 (-16), .int .i64 16] W fun e' w' => e' = .returned (.int .i64 (cl16 x)) ∧ w' = W) := fun W => pclamp_any x (-16) 16 W (by decide)
      generalize cl16 x = y at HST HCL
      clear q1 q2 hc hml hd hbl
      have hkI : (k : Int) < n := by omega
      go_wp2_with (go_at_call 33; go_loud (refine (HCL.out _).mono ?_; rintro e' w' ⟨rfl, rfl⟩))
      go_roundw
      case rel => exact ⟨k + 1, by omega, by go_num, HST.out, hb.setCell (Nat.le_refl _) _⟩
      case measure => simp [intOf]; omega
    · obtain rfl : k = n := by omega
      rw [mixL_all q1 q2] at hr
      have HR : Hid (NewRow 2 w.heap.size wr (some ⟨w.heap.size, 0, none⟩) D) := hr
      clear q1 q2 hlt hk hmk hr
      have hnk : ¬ ((k : Int) < k) := by omega
      go_wp2
      go_loopw [8] (fun x W => ∃ (j o : Nat), x = .int .i64 o ∧ Below w.heap.size w W ∧ NewRow 2 w.heap.size W (some ⟨w.heap.size, 0, none⟩) (fewsL t j D ++ D.drop (16 * j)) ∧ Hid (o = 16 * j ∧ (k ≤ o → j = (k + 15) / 16) ∧ o ≤ k + 15)) (fun x _ => k - (intOf x).toNat)
      case atStart => exact ⟨0, 0, rfl, hb, HR.out, rfl, fun h => by omega, by omega⟩
      case round =>
        clear hb
        obtain ⟨j, o, rfl, hb, hr, HO⟩ := hrel
        by_cases hlt : o < k
        · obtain ⟨d1, d2, d3⟩ := HD.out
          have hO := HO.out.1
          obtain ⟨X, hX⟩ : ∃ X, (D.drop (16 * j)).take 16 = X := ⟨_, rfl⟩
          obtain ⟨z, hz⟩ : ∃ z, X.length = z := ⟨_, rfl⟩
          have hXs : Small X := by rw [← hX]; exact (d3.drop _).take _
          have hA := fewsL_lenTo t j D (by omega)
          have hXl : X.length = min 16 (k - o) := by rw [← hX, List.length_take, List.length_drop, d1, hO]
          have hsplit : D.drop (16 * j) = X ++ D.drop (16 * (j + 1)) := by
            rw [← hX, show 16 * (j + 1) = 16 * j + 16 by omega, ← List.drop_drop, List.take_append_drop]
          have hsn : fewsL t (j + 1) D = fewsL t j D ++ fewB t X := by rw [fewsL_snoc, hX]
          have HLO : Hid (∀ W, NewRow 2 w.heap.size W (some ⟨w.heap.size, 0, none⟩) (fewsL t j D ++ D.drop (16 * j)) → Calls Try.prog 34 #[.slice (some ⟨w.heap.size, o, none⟩) z (k - o), .int .i64 t] W fun e' w' => e' = .returned (.tuple #[]) ∧ NewRow 2 w.heap.size w' (some ⟨w.heap.size, 0, none⟩) (fewsL t (j + 1) D ++ D.drop (16 * (j + 1))) ∧ Went (fun k => k = w.heap.size) W (fun k => k = w.heap.size) w') := fun W hW => by
            rw [hsn, List.append_assoc]
            exact leaveOut_any w.heap.size w.heap.size (fewsL t j D) X (D.drop (16 * (j + 1))) z o (k - o) t W (by rw [← hsplit]; exact hW) (by omega) hz (by omega) (by omega) (by omega) hXs HT.out.2.1 HT.out.2.2
          have HCL : Hid (∀ W, Calls Try.prog 35 #[.int .i64 most, .int .i64 0, .int .i64 16] W fun e' w' => e' = .returned (.int .i64 t) ∧ w' = W) := fun W => by
            have := pclampInt_any most 0 16 W (by decide)
            rw [HT.out.1] at this
            exact this
          have HZ : Hid (z = min 16 (k - o) ∧ o < k ∧ o = 16 * j) := ⟨by omega, hlt, hO⟩
          have hwz := (hr.ge (by rw [List.length_append, List.length_drop]; omega)).2
          have hs3 : (o : Int) < k := by omega
          have hs4 : o ≤ k := by omega
          clear d1 d2 d3 hO hX hz hXs hA hXl hsplit hsn hlt
          obtain ⟨E, hE⟩ : ∃ E, min (o + 16) k = E := ⟨_, rfl⟩
          have hmin : ∀ (ts : Array TypeId) (t : TypeId) (W : World), (Builtin.min_ ts t #[.int .i64 ((o : Int) + 16), .int .i64 (k : Int)]).run Try.prog W = .ok (.int .i64 (E : Int)) W := fun ts t W => by
            rw [run_min_int2]
            have : (if (k : Int) < (o : Int) + 16 then (k : Int) else (o : Int) + 16) = (E : Int) := by split <;> omega
            rw [this]
          obtain ⟨hsl, hsa⟩ := slice_mid w.heap.size k k o E z (by have := HZ.out.1; omega) (by omega) (by have := HZ.out.1; omega) (by have := HZ.out.2.1; omega)
          have hwr : IntKind.i64.wrap ((o : Int) + 16) = (o : Int) + 16 := by rw [IntKind.wrap_i64]; omega
          clear hE
          go_wp2
          go_region_with (first
            | (go_at_call 35; go_loud (refine (HCL.out _).mono ?_; rintro e' w' ⟨rfl, rfl⟩))
            | (go_at_call 34; go_loud (refine (HLO.out _ hr.drew).mono ?_; rintro e' w2 ⟨rfl, hr2, hw2⟩)))
          all_goals
            go_wp2
            go_roundw
            case rel => exact ⟨j + 1, o + 16, by go_num, hb.drew.trans (hw2.below (fun k hk => by rw [hk]; exact Nat.le_refl _) hb.size), hr2, by have := HZ.out; omega, fun h => by have := HZ.out; omega, by have := HZ.out; omega⟩
            case measure => simp [intOf]; have := HZ.out; omega
        · have hs1 : ¬ ((o : Int) < k) := by omega
          have HJ : Hid (j = (k + 15) / 16 ∧ k ≤ 16 * j) := ⟨HO.out.2.1 (by omega), by have := HO.out.1; omega⟩
          have HD1 : Hid (D.length = k) := HD.out.1
          clear HO
          go_wp2
          go_ret
          rw [List.drop_eq_nil_of_le (by have := HJ.out.2; have := HD1.out; omega), List.append_nil, HJ.out.1] at hr
          rw [HF.out]
          exact ⟨rfl, hr, hb⟩

end Go.Proofs.Ytdbgcbbfnjoebaa

/- The document's own pulses: sizes, pulses shared over samples. -/
namespace Go.Proofs.Ytdbgcbbfnjoebaa
open Go.RowKit

theorem rsize_any (v : Int) (w : World) (h1 : -1000000 ≤ v) (h2 : v ≤ 1000000) : Calls Try.prog 43 #[.int .i64 v] w fun e w' => e = .returned (.int .i64 (absI v)) ∧ w' = w := by
  have HA : Hid (absI v = if v < 0 then -v else v) := rfl
  go_enter Try.func43, Try.ntmps43
  go_wp2
  all_goals
    go_ret
    refine ⟨ret_int ?_, rfl⟩
    rw [HA.out]
    try unfold wrap64 at *
    split <;> omega

theorem Rr.bytes' {p g : Nat} {bs : List Nat} {s : St} {w : World} (h : Rr p g bs s w) : Bytes bs := by obtain ⟨_, h⟩ := h; exact h.bytes

set_option maxRecDepth 100000 in
set_option maxHeartbeats 800000 in
theorem rshare_any (p gb g B : Nat) (bs : List Nat) (hgp : g ≠ p) (hgb : bs ≠ [] → g ≠ gb) : ∀ (d : Nat) (s : St) (k : Int) (A C : List Int) (n o cap : Nat) (w : World), Rr p gb bs s w → Inv s → s.cnt + 60 * n ≤ 100000000000000 → n = 2 ^ d → n ≤ 16 → o = A.length → n ≤ cap → 0 ≤ k → k ≤ 16 →
    NewRow 2 B w (some ⟨g, 0, none⟩) (A ++ (List.replicate n 0 ++ C)) →
    Calls Try.prog 38 #[.pointer (some ⟨p, 0, none⟩), .slice (some ⟨g, o, none⟩) n cap, .int .i64 k] w fun e w' => e = .returned (.tuple #[]) ∧ Rr p gb bs (shareV bs d k s).2 w' ∧ NewRow 2 B w' (some ⟨g, 0, none⟩) (A ++ ((shareV bs d k s).1 ++ C)) ∧ Went (PG p g) w (PG p g) w' := by
  intro d
  induction d with
  | zero =>
    intro s k A C n o cap w h hi hc hn hn16 ho hcap hk0 hk16 hr
    obtain rfl : n = 1 := hn
    subst ho
    have hlt : A.length < (A ++ ([0] ++ C)).length := by simp
    have hcell := hr.cellAt hlt
    have hf := hr.frozenAt (by simp only [List.length_append, List.length_replicate]; omega) A.length
    have HX : Hid (Rr p gb bs s w ∧ NewRow 2 B w (some ⟨g, 0, none⟩) (A ++ (0 :: C))) := ⟨h, hr⟩
    clear h hi hc hr hn16 hlt
    go_enter Try.func38, Try.ntmps38
    go_wp2
    refine bodyPost_ret (results_none rfl _ _ _) rfl ?_
    have hw := went_set (p := p) (g := g) w A.length (.int .i64 k)
    refine ⟨rfl, HX.out.1.of_blocks ?_ ?_, ?_, hw⟩
    · exact ((But.refl g w).set A.length _).block p (fun e => hgp e.symm)
    · exact fun h0 => ((But.refl g w).set A.length _).block gb (fun e => hgb h0 e.symm)
    · have h2 := HX.out.2.set A.length k
      rw [mid_set] at h2
      exact h2
  | succ d ih =>
    intro s k A C n o cap w h hi hc hn hn16 ho hcap hk0 hk16 hr
    obtain ⟨m, hm⟩ : ∃ m, 2 ^ d = m := ⟨_, rfl⟩
    have hmp := pow_pos2 d
    rw [hm] at hmp
    have hnm : n = m + m := by rw [hn, Nat.pow_succ, Nat.mul_two, hm]
    have hs1 : m ≤ n := by omega
    have hs2 : m ≤ cap := by omega
    have hs3 : (m : Int) ≤ n := by omega
    have hs4 : (m : Int) ≤ cap := by omega
    have HS5 : Hid (¬ cap = m) := by show ¬ _; omega
    have hw6 : n - m = m := by omega
    obtain ⟨f, s1, e1⟩ : ∃ f s1, rdUint bs (k + 1) s = (f, s1) := pair_is _
    obtain ⟨V1, s2, e2⟩ : ∃ V s2, shareV bs d f s1 = (V, s2) := pair_is _
    obtain ⟨V2, s3, e3⟩ : ∃ V s3, shareV bs d (k - f) s2 = (V, s3) := pair_is _
    have eV : shareV bs (d + 1) k s = (V1 ++ V2, s3) := by
      show ((shareV bs d (rdUint bs (k + 1) s).1 (rdUint bs (k + 1) s).2).1 ++ (shareV bs d (k - (rdUint bs (k + 1) s).1) (shareV bs d (rdUint bs (k + 1) s).1 (rdUint bs (k + 1) s).2).2).1,
        (shareV bs d (k - (rdUint bs (k + 1) s).1) (shareV bs d (rdUint bs (k + 1) s).1 (rdUint bs (k + 1) s).2).2).2) = _
      rw [e1]
      show ((shareV bs d f s1).1 ++ (shareV bs d (k - f) (shareV bs d f s1).2).1, (shareV bs d (k - f) (shareV bs d f s1).2).2) = _
      rw [e2]
      show (V1 ++ (shareV bs d (k - f) s2).1, (shareV bs d (k - f) s2).2) = _
      rw [e3]
    have HU : Hid (∀ W, Rr p gb bs s W → Calls Try.prog 62 #[.pointer (some ⟨p, 0, none⟩), .int .i64 (k + 1)] W fun e w' => e = .returned (.int .i64 f) ∧ Rr p gb bs s1 w' ∧ But p W w') := fun W hW => by
      have := ruint_any p gb bs s (k + 1) W hW hi (by omega)
      have ef : (((uintS bs (k + 1) s).1 : Nat) : Int) = f := (first_is e1 :)
      have es : (uintS bs (k + 1) s).2 = s1 := (second_is e1 :)
      rw [ef, es] at this
      exact this
    obtain ⟨r1, r2, r3, _⟩ := rdUint_in h.bytes' (n := k + 1) (by omega) hi
    have c1 := rdUint_cnt bs (k + 1) s
    rw [e1] at r1 r2 r3 c1
    obtain ⟨a1, _, _, a4, _⟩ := shareV_in h.bytes' d f s1 r1 r3
    have c2 := shareV_cnt bs d f s1
    rw [e2, hm] at c2
    rw [e2] at a1 a4
    have c3 : s2.cnt + 60 ≤ s1.cnt + 60 * m := c2
    have c4 : s1.cnt ≤ s.cnt + 60 := c1
    have a1 : V1.length = m := by rw [← hm]; exact a1
    have r1 : 0 ≤ f := r1
    have r2 : f < k + 1 := r2
    have HA : Hid (∀ W, Rr p gb bs s1 W → NewRow 2 B W (some ⟨g, 0, none⟩) (A ++ (List.replicate n 0 ++ C)) → Calls Try.prog 38 #[.pointer (some ⟨p, 0, none⟩), .slice (some ⟨g, o, none⟩) m cap, .int .i64 f] W fun e w' => e = .returned (.tuple #[]) ∧ Rr p gb bs s2 w' ∧ NewRow 2 B w' (some ⟨g, 0, none⟩) (A ++ (V1 ++ (List.replicate m 0 ++ C))) ∧ Went (PG p g) W (PG p g) w') := fun W h1 h2 => by
      have := ih s1 f A (List.replicate m 0 ++ C) m o cap W h1 r3 (by omega) hm.symm (by omega) ho (by omega) r1 (by omega) (by rw [← List.append_assoc (List.replicate m 0), List.replicate_append_replicate, ← hnm]; exact h2)
      rw [e2] at this
      exact this
    have HB : Hid (∀ W, Rr p gb bs s2 W → NewRow 2 B W (some ⟨g, 0, none⟩) (A ++ (V1 ++ (List.replicate m 0 ++ C))) → Calls Try.prog 38 #[.pointer (some ⟨p, 0, none⟩), .slice (some ⟨g, o + m, none⟩) m (cap - m), .int .i64 (k - f)] W fun e w' => e = .returned (.tuple #[]) ∧ Rr p gb bs s3 w' ∧ NewRow 2 B w' (some ⟨g, 0, none⟩) (A ++ ((V1 ++ V2) ++ C)) ∧ Went (PG p g) W (PG p g) w') := fun W h1 h2 => by
      have := ih s2 (k - f) (A ++ V1) C m (o + m) (cap - m) W h1 a4 (by omega) hm.symm (by omega) (by rw [List.length_append, a1, ho]) (by omega) (by omega) (by omega) (by rw [List.append_assoc]; exact h2)
      rw [e3, List.append_assoc, ← List.append_assoc V1] at this
      exact this
    have HR : Hid (Rr p gb bs s w ∧ NewRow 2 B w (some ⟨g, 0, none⟩) (A ++ (List.replicate n 0 ++ C))) := ⟨h, hr⟩
    rw [eV]
    have hnI : ((n : Int) == 1) = false := beq_eq_false_iff_ne.2 (by omega)
    have hq : wrap64 ((n : Int) / 2) = m := by rw [show (n : Int) / 2 = m by omega]; exact wrap_n (by omega) (by omega)
    have hkf : f ≤ k := Int.le_of_lt_add_one r2
    clear h hi hc hn ho hr hn16 ih e1 e2 e3 eV a1 a4 c1 c2 c3 c4 r2 r3 hm hmp hnm
    have l1 : Hid True := trivial
    go_enter Try.func38, Try.ntmps38
    go_wp2_with (first
      | (go_at_call 62; go_loud (refine (HU.out _ HR.out.1).mono ?_; rintro e w1 ⟨rfl, hd1, hb1⟩; have hr1 := HR.out.2.same (w' := w1) (fun b hb => hb1.block b (fun e => hgp (by cases hb; exact e)))))
      | (go_at_call 38; clear l1; refine (HA.out _ hd1 hr1).mono ?_; rintro e w2 ⟨rfl, hd2, hr2, hw2⟩)
      | (go_at_call 38; rw [if_neg HS5.out]; refine (HB.out _ hd2 hr2).mono ?_; rintro e w3 ⟨rfl, hd3, hr3, hw3⟩))
    go_end0
    exact ⟨rfl, hd3, hr3, ((went_but hb1).trans hw2).trans hw3⟩

end Go.Proofs.Ytdbgcbbfnjoebaa

