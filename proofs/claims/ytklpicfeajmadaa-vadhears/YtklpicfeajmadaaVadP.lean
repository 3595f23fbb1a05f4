/- The program's loudness and meter. -/
import Derived.Test.YtklpicfeajmadaaVadC
namespace Go.Proofs.Ytklpicfeajmadaa
open Go.RowKit
namespace Vad

/-- At p lies the program's meter. -/
def Mt (p : Nat) (m : MeterI) (w : World) : Prop := w.rowIs p 39 2 (rmF m)
section
variable {p : Nat} {m : MeterI} {w w' : World}
theorem Mt.lt (h : Mt p m w) : p < w.heap.size := World.rowIs.lt h
theorem Mt.drewN (h : Mt p m w) (n : Nat) : Mt p m (w.drewN n) := h
theorem Mt.of_block (h : Mt p m w) (hp : w'.heap[p]? = w.heap[p]?) : Mt p m w' := World.rowIs.of_block h hp
theorem Mt.keep (h : Mt p m w) (hb : Below w.heap.size w w') : Mt p m w' := h.of_block (hb.block p h.lt)
theorem Mt.off {q : Nat} (h : Mt p m w) (hb : Off q w w') (hp : p ≠ q) : Mt p m w' := h.of_block (hb.block p hp h.lt)
theorem Mt.setFloor (h : Mt p m w) (x : Int) {v : Int} (hv : v = x) : Mt p ⟨x, m.count⟩ (w.setCell ⟨p, 0, none⟩ (.int .i64 v)) := by
  subst hv
  exact (World.rowIs.set h 0 _).congr (lt2 rfl rfl)
theorem Mt.setCount (h : Mt p m w) (x : Int) {v : Int} (hv : v = x) : Mt p ⟨m.floor, x⟩ (w.setCell ⟨p, 1, none⟩ (.int .i64 v)) := by
  subst hv
  exact (World.rowIs.set h 1 _).congr (lt2 rfl rfl)
theorem Mt.fields (h : Mt p m w) : w.cell? ⟨p, 0, none⟩ = some (.int .i64 m.floor) ∧ w.cell? ⟨p, 1, none⟩ = some (.int .i64 m.count) ∧ ∀ i, w.frozen? ⟨p, i, none⟩ = false :=
  ⟨World.rowIs.cell h (i := 0) (by decide), World.rowIs.cell h (i := 1) (by decide), World.rowIs.frozen h⟩
end
theorem mt_new {w : World} : Mt w.heap.size ⟨-1, 0⟩ (w.alloc (.cells #[.int .i64 (-1), .int .i64 0] 39)) := World.rowIs_alloc w _ _ _ (fun i hi => by
  match i, hi with
  | 0, _ => rfl
  | 1, _ => rfl)

theorem elem_numbers : Try.prog.underlying 28 = some (.slice (Try.prog.elem 28)) := by kernel_rfl
theorem size_numbers (W : World) : (sizeOf (Try.prog.elem 28)).run Try.prog W = .ok 1 W := by kernel_rfl

theorem slice_to (a : Option Addr) (n cap hi : Nat) (h3 : hi ≤ cap) : (∀ W, (Instr.slice 28 (.slice a n cap) none (some (.int .i64 (hi : Int))) none).run Try.prog W = .ok (.slice a hi cap) W) ∧
    ∀ W, (Instr.sliceAt 28 (.slice a n cap) none (some (.int .i64 (hi : Int))) none).run Try.prog W = .ok (.slice a hi cap) W := by
  have hr : ∀ W, (Instr.slice 28 (.slice a n cap) none (some (.int .i64 (hi : Int))) none).run Try.prog W = .ok (.slice a hi cap) W := fun W => by
    rw [run_slice_h (P := Try.prog) (w := W) 28 a n cap elem_numbers .i64 hi (by omega) (by omega), size_numbers]
    show Result.ok (sliced _ _ _ _ 1) W = _
    unfold sliced
    rw [Int.toNat_natCast]
    cases a <;> simp [Addr.add]
  exact ⟨hr, fun W => by rw [run_sliceAt_slice (P := Try.prog) (w := W) (h := elem_numbers)]; exact hr W⟩

set_option maxHeartbeats 1000000 in
theorem pLevel (a : Option Addr) (n cap : Nat) (zs : List Int) (w : World) (hz : Zs w a n zs) (hn : n ≤ cap) (hm : cap ≤ maxLen) :
    Calls Try.prog 8 #[.slice a n cap] w fun e w' => e = .returned (.int .i64 (levelI zs)) ∧ ∃ k, w' = w.drewN k := by
  have HZ : Hid (0 < n → ∃ b off, a = some ⟨b, off, none⟩ ∧ b < w.heap.size ∧ ∀ i, i < n → w.cell? ⟨b, off + i, none⟩ = some (.int .i64 (zs[i]?.getD 0))) := hz.at_
  obtain ⟨M, hK⟩ : ∃ M, min n 960 = M := ⟨_, rfl⟩
  have hcap : (cap : Int) ≤ 9223372036854775807 := by simp only [maxLen] at hm; omega
  by_cases h0 : n = 0
  · have HE : Hid (levelI zs = 0) := by
      show _ = _
      unfold levelI
      rw [if_pos (by rw [hz.len, h0])]
    subst h0
    clear hz hK HZ
    go_enter Try.func8, Try.ntmps8
    go_wp2
    go_ret
    rw [HE.out]
    exact ⟨rfl, 0, rfl⟩
  · have HE : Hid (levelI zs = log2I (1 + sqV zs M / (M : Int))) := by
      show _ = _
      unfold levelI meanV
      rw [if_neg (by rw [hz.len]; exact h0), hz.len, hK]
    have HS : Hid (∀ k, sqV zs (k + 1) = sqV zs k + s16 (zs[k]?.getD 0) * s16 (zs[k]?.getD 0)) := fun _ => rfl
    have HB : Hid (∀ k : Nat, 0 ≤ sqV zs k ∧ sqV zs k ≤ (k : Int) * 1073741824) := sqV_in zs
    have HN0 : Hid (sqV zs 0 = 0) := rfl
    have HS16 : Hid (∀ z, clampI z (-32768) 32767 = s16 z) := fun _ => rfl
    have HK : Hid (M ≤ n ∧ M ≤ 960 ∧ 0 < M) := by
      show _ ∧ _
      omega
    have hmin : ∀ (ts : Array TypeId) (t : TypeId) (W : World), (Builtin.min_ ts t #[.int .i64 (n : Int), .int .i64 (960 : Int)]).run Try.prog W = .ok (.int .i64 (M : Int)) W := fun ts t W => by
      rw [run_min_int2]
      have : (if (960 : Int) < (n : Int) then (960 : Int) else (n : Int)) = (M : Int) := by split <;> omega
      rw [this]
    obtain ⟨hs1, hs2⟩ := slice_to a n cap M (by omega)
    generalize sqV zs = C at *
    have hn0 : ((n : Int) == 0) = false := beq_eq_false_iff_ne.2 (by omega)
    clear hz hK hn hm
    go_enter Try.func8, Try.ntmps8
    go_wp2
    go_loop [3, 5, 16] (fun c _ i => ∃ k : Nat, k ≤ M ∧ c = .int .i64 (C k) ∧ i = .int .i64 (k : Int)) (fun _ _ i => 960 - (intOf i).toNat)
    case atStart => exact ⟨0, Nat.zero_le _, by rw [HN0.out], rfl⟩
    case round =>
      obtain ⟨k, hk, rfl, rfl⟩ := hrel
      have hKK := HK.out
      by_cases hlt : k < M
      · obtain ⟨b, off, rfl, _, hc⟩ := HZ.out (by omega)
        have hck := hc k (by omega)
        have hs := HS.out k
        have hb := HB.out k
        have hb1 := HB.out (k + 1)
        have hss := s16_in (zs[k]?.getD 0)
        have HCL := HS16.out (zs[k]?.getD 0)
        replace HCL : Hid (clampI (zs[k]?.getD 0) (-32768) 32767 = s16 (zs[k]?.getD 0)) := HCL
        generalize zs[k]?.getD 0 = z at *
        generalize s16 z = u at *
        have hp := prod16 hss.1 hss.2 hss.1 hss.2
        obtain ⟨uu, huu⟩ : ∃ v, u * u = v := ⟨_, rfl⟩
        rw [huu] at hs hp
        have HX : Hid (wrap64 (u * u) = uu) := by show _ = _; rw [huu]; exact i64_wrap (by omega) (by omega)
        have HA : Hid (wrap64 (C k + uu) = C (k + 1)) := by show _ = _; rw [hs]; exact i64_wrap (by omega) (by omega)
        have hkn : (k : Int) < (M : Int) := by omega
        have hk9 : (k : Int) < 960 := by omega
        clear hs hb hb1 hss hp huu hKK hc
        go_wp2_with (go_at_call 15; refine (sat16_any _ _).mono ?_; rw [HCL.out]; rintro e w ⟨rfl, rfl⟩)
        go_round
        case rel => exact ⟨k + 1, by omega, by rw [HX.out, HA.out], by go_num⟩
        case measure => simp [intOf]; omega
      · obtain rfl : k = M := by omega
        have hb := HB.out k
        have hd := div_of hb.1 (show C k ≤ ((k : Int)) * 1073741824 by omega) (show 0 < (k : Int) by omega)
        obtain ⟨q, hq⟩ : ∃ q, C k / (k : Int) = q := ⟨_, rfl⟩
        have HEQ : Hid (levelI zs = log2I (1 + q)) := by
          show _ = _
          rw [HE.out, ← hq]
        rw [hq] at hd
        have HQ1 : Hid (wrap64 ((C k).tdiv (k : Int)) = q) := by show _ = _; rw [Int.tdiv_eq_ediv_of_nonneg hb.1, hq]; exact i64_wrap (by omega) (by omega)
        have HA1 : Hid (wrap64 (1 + q) = 1 + q) := i64_wrap (by omega) (by omega)
        have HA2 : Hid (1 + q ≤ 9223372036854775807) := by show _ ≤ _; omega
        have hnk : ((k : Int) < (k : Int)) = False := eq_false (by omega)
        have hk0 : ((k : Int) == 0) = false := beq_eq_false_iff_ne.2 (by omega)
        clear hb hd hq hKK
        go_wp2_with (go_loud (go_at_call 16; rw [HQ1.out, HA1.out]; refine (log2_any _ _ HA2.out).mono ?_; rintro e w ⟨rfl, rfl⟩))
        all_goals first | (exfalso; have := HK.out; omega) | (go_ret; rw [HEQ.out]; exact ⟨rfl, 0, rfl⟩)

theorem pNew (w : World) :
    Calls Try.prog 9 #[] w fun e w' => ∃ p, e = .returned (.pointer (some ⟨p, 0, none⟩)) ∧ w.heap.size ≤ p ∧ Mt p ⟨-1, 0⟩ w' ∧ Below w.heap.size w w' := by
  go_enter Try.func9, Try.ntmps9
  go_wp2
  go_ret
  exact ⟨_, rfl, Nat.le_refl _, mt_new, (Below.refl _ _).alloc (Nat.le_refl _) _⟩

theorem pFloor (p : Nat) (m : MeterI) (w : World) (hM : Mt p m w) :
    Calls Try.prog 14 #[.pointer (some ⟨p, 0, none⟩)] w fun e w' => e = .returned (.int .i64 m.floor) ∧ w' = w := by
  obtain ⟨c0, _, _⟩ := hM.fields
  clear hM
  go_enter Try.func14, Try.ntmps14
  go_wp2
  go_ret
  exact ⟨rfl, rfl⟩

set_option maxHeartbeats 4000000 in
theorem pStep (p : Nat) (m : MeterI) (a : Option Addr) (n cap : Nat) (zs : List Int) (w : World) (hM : Mt p m w) (hok : m.Ok) (hz : Zs w a n zs) (hn : n ≤ cap) (hm : cap ≤ maxLen) :
    Calls Try.prog 13 #[.pointer (some ⟨p, 0, none⟩), .slice a n cap] w fun e w' => e = .returned (.bool (m.told (levelI zs))) ∧ Mt p (m.next (levelI zs)) w' ∧ Off p w w' := by
  have HL : Hid (Calls Try.prog 8 #[.slice a n cap] w fun e w' => e = .returned (.int .i64 (levelI zs)) ∧ ∃ k, w' = w.drewN k) := pLevel a n cap zs w hz hn hm
  have hvb := levelI_in zs
  generalize levelI zs = v at *
  have HMD : Hid (∀ k, Mt p m (w.drewN k) ∧ But p w (w.drewN k)) := fun k => ⟨hM.drewN k, (But.refl p w).drewN k⟩
  have HF : Hid (∀ k, (w.drewN k).cell? ⟨p, 0, none⟩ = some (.int .i64 m.floor) ∧ (w.drewN k).cell? ⟨p, 1, none⟩ = some (.int .i64 m.count) ∧ ∀ i, (w.drewN k).frozen? ⟨p, i, none⟩ = false) := fun k => (hM.drewN k).fields
  obtain ⟨fl, ct⟩ := m
  obtain ⟨k1, k2, k3, k4⟩ := hok
  simp only at k1 k2 k3 k4
  unfold MeterI.told MeterI.next MeterI.heard
  simp only
  clear hM hz hn hm
  by_cases h1 : fl < 0 ∨ v < fl + 8
  · rw [if_pos h1, if_neg (show ¬ v + 512 < v by omega)]
    by_cases hf : fl = -1
    · subst hf
      by_cases h4 : 0 < ct
      · rw [if_pos h4, decide_eq_true (show v + 512 < v ∨ 0 < ct from .inr h4)]
        go_enter Try.func13, Try.ntmps13
        go_wp2_with (go_at_call 8; refine HL.out.mono ?_; rintro e w' ⟨rfl, kd, hw'⟩; obtain ⟨c0, c1, fz⟩ := HF.out kd; have HM := HMD.out kd; rw [← hw'] at c0 c1 fz HM; replace HM : Hid (Mt p ⟨-1, ct⟩ w' ∧ But p w w') := HM; clear hw'; have f0 := fz 0; have f1 := fz 1; clear fz)
        all_goals first | (exfalso; omega) | (go_ret; exact ⟨rfl, (HM.out.1.setFloor _ rfl).setCount _ rfl, ((HM.out.2.set _ _).set _ _).off⟩)
      · rw [if_neg h4, decide_eq_false (show ¬ (v + 512 < v ∨ 0 < ct) by omega)]
        go_enter Try.func13, Try.ntmps13
        go_wp2_with (go_at_call 8; refine HL.out.mono ?_; rintro e w' ⟨rfl, kd, hw'⟩; obtain ⟨c0, c1, fz⟩ := HF.out kd; have HM := HMD.out kd; rw [← hw'] at c0 c1 fz HM; replace HM : Hid (Mt p ⟨-1, ct⟩ w' ∧ But p w w') := HM; clear hw'; have f0 := fz 0; have f1 := fz 1; clear fz)
        all_goals first | (exfalso; omega) | (go_ret; exact ⟨rfl, HM.out.1.setFloor _ rfl, (HM.out.2.set _ _).off⟩)
    · have hfe : (fl == -1) = false := beq_eq_false_iff_ne.2 hf
      have hmin : ∀ (ts : Array TypeId) (t : TypeId) (W : World), (Builtin.min_ ts t #[.int .i64 v, .int .i64 (fl + 8)]).run Try.prog W = .ok (.int .i64 v) W := fun ts t W => by
        rw [run_min_int2, if_neg (by omega)]
      by_cases h4 : 0 < ct
      · rw [if_pos h4, decide_eq_true (show v + 512 < v ∨ 0 < ct from .inr h4)]
        go_enter Try.func13, Try.ntmps13
        go_wp2_with (go_at_call 8; refine HL.out.mono ?_; rintro e w' ⟨rfl, kd, hw'⟩; obtain ⟨c0, c1, fz⟩ := HF.out kd; have HM := HMD.out kd; rw [← hw'] at c0 c1 fz HM; replace HM : Hid (Mt p ⟨fl, ct⟩ w' ∧ But p w w') := HM; clear hw'; have f0 := fz 0; have f1 := fz 1; clear fz)
        all_goals first | (exfalso; omega) | (go_ret; exact ⟨rfl, (HM.out.1.setFloor _ rfl).setCount _ rfl, ((HM.out.2.set _ _).set _ _).off⟩)
      · rw [if_neg h4, decide_eq_false (show ¬ (v + 512 < v ∨ 0 < ct) by omega)]
        go_enter Try.func13, Try.ntmps13
        go_wp2_with (go_at_call 8; refine HL.out.mono ?_; rintro e w' ⟨rfl, kd, hw'⟩; obtain ⟨c0, c1, fz⟩ := HF.out kd; have HM := HMD.out kd; rw [← hw'] at c0 c1 fz HM; replace HM : Hid (Mt p ⟨fl, ct⟩ w' ∧ But p w w') := HM; clear hw'; have f0 := fz 0; have f1 := fz 1; clear fz)
        all_goals first | (exfalso; omega) | (go_ret; exact ⟨rfl, HM.out.1.setFloor _ rfl, (HM.out.2.set _ _).off⟩)
  · rw [if_neg h1]
    have hfe : (fl == -1) = false := beq_eq_false_iff_ne.2 (by omega)
    have hmin : ∀ (ts : Array TypeId) (t : TypeId) (W : World), (Builtin.min_ ts t #[.int .i64 v, .int .i64 (fl + 8)]).run Try.prog W = .ok (.int .i64 (fl + 8)) W := fun ts t W => by
      rw [run_min_int2]
      have : (if fl + 8 < v then fl + 8 else v) = fl + 8 := by split <;> omega
      rw [this]
    by_cases h3 : fl + 8 + 512 < v
    · rw [if_pos h3, decide_eq_true (show fl + 8 + 512 < v ∨ 0 < ct from .inl h3)]
      go_enter Try.func13, Try.ntmps13
      go_wp2_with (go_at_call 8; refine HL.out.mono ?_; rintro e w' ⟨rfl, kd, hw'⟩; obtain ⟨c0, c1, fz⟩ := HF.out kd; have HM := HMD.out kd; rw [← hw'] at c0 c1 fz HM; replace HM : Hid (Mt p ⟨fl, ct⟩ w' ∧ But p w w') := HM; clear hw'; have f0 := fz 0; have f1 := fz 1; clear fz)
      all_goals first | (exfalso; omega) | (go_ret; exact ⟨rfl, (HM.out.1.setFloor _ rfl).setCount _ rfl, ((HM.out.2.set _ _).set _ _).off⟩)
    · rw [if_neg h3]
      by_cases h4 : 0 < ct
      · rw [if_pos h4, decide_eq_true (show fl + 8 + 512 < v ∨ 0 < ct from .inr h4)]
        go_enter Try.func13, Try.ntmps13
        go_wp2_with (go_at_call 8; refine HL.out.mono ?_; rintro e w' ⟨rfl, kd, hw'⟩; obtain ⟨c0, c1, fz⟩ := HF.out kd; have HM := HMD.out kd; rw [← hw'] at c0 c1 fz HM; replace HM : Hid (Mt p ⟨fl, ct⟩ w' ∧ But p w w') := HM; clear hw'; have f0 := fz 0; have f1 := fz 1; clear fz)
        all_goals first | (exfalso; omega) | (go_ret; exact ⟨rfl, (HM.out.1.setFloor _ rfl).setCount _ rfl, ((HM.out.2.set _ _).set _ _).off⟩)
      · rw [if_neg h4, decide_eq_false (show ¬ (fl + 8 + 512 < v ∨ 0 < ct) by omega)]
        go_enter Try.func13, Try.ntmps13
        go_wp2_with (go_at_call 8; refine HL.out.mono ?_; rintro e w' ⟨rfl, kd, hw'⟩; obtain ⟨c0, c1, fz⟩ := HF.out kd; have HM := HMD.out kd; rw [← hw'] at c0 c1 fz HM; replace HM : Hid (Mt p ⟨fl, ct⟩ w' ∧ But p w w') := HM; clear hw'; have f0 := fz 0; have f1 := fz 1; clear fz)
        all_goals first | (exfalso; omega) | (go_ret; exact ⟨rfl, HM.out.1.setFloor _ rfl, (HM.out.2.set _ _).off⟩)

/-- The first k answers in a row that was made. -/
structure An (w0 : World) (p n : Nat) (m0 : MeterI) (vs : Nat → RowV) (k : Nat) (W : World) : Prop where
  off : Off p w0 W
  mt : Mt p (m0.run (lvlsG vs k)) W
  row : ∃ bs : List Bool, bs.length = k ∧ bs = m0.tells (lvlsG vs k) ∧ W.rowIs w0.heap.size 4 n (fun j => .bool (bs[j]?.getD false))
theorem run_snoc (m : MeterI) (v : Int) : ∀ l, m.run (l ++ [v]) = (m.run l).next v := by
  intro l
  induction l generalizing m with
  | nil => rfl
  | cons a l ih => exact ih _
theorem tells_snoc (m : MeterI) (v : Int) : ∀ l, m.tells (l ++ [v]) = m.tells l ++ [(m.run l).told v] := by
  intro l
  induction l generalizing m with
  | nil => rfl
  | cons a l ih => exact congrArg (List.cons _) (ih _)
theorem run_ok (vs : Nat → RowV) {m : MeterI} (h : m.Ok) : ∀ n, (m.run (lvlsG vs n)).Ok
  | 0 => h
  | n + 1 => by
    show (m.run (lvlsG vs n ++ [_])).Ok
    rw [run_snoc]
    exact (MeterI.next_ok (run_ok vs h n) (levelI_in _).1 (levelI_in _).2).1
section
variable {w0 W W' : World} {p n k : Nat} {m0 : MeterI} {vs : Nat → RowV}
theorem An.drewN (h : An w0 p n m0 vs k W) (d : Nat) : An w0 p n m0 vs k (W.drewN d) := ⟨h.off.drewN d, h.mt.drewN d, h.row⟩
theorem An.lt (h : An w0 p n m0 vs k W) : w0.heap.size < W.heap.size := by
  obtain ⟨_, _, _, h1⟩ := h.row
  exact World.rowIs.lt h1
theorem An.start (hM : Mt p m0 w0) : An w0 p n m0 vs 0 (w0.alloc (.cells (madeCells #[.bool false] n) 4)) :=
  ⟨Off.of_below ((Below.refl _ _).alloc (Nat.le_refl _) _), hM.keep ((Below.refl _ _).alloc (Nat.le_refl _) _), [], rfl, rfl, (World.rowIs_made w0 _ n _).congr (fun _ _ => rfl)⟩
theorem An.next (h : An w0 p n m0 vs k W) (hp : p < w0.heap.size) (ho : Off p W W') (hm : Mt p ((m0.run (lvlsG vs k)).next (levelI (vs k).zs)) W') {t : Bool} (ht : t = (m0.run (lvlsG vs k)).told (levelI (vs k).zs)) :
    An w0 p n m0 vs (k + 1) (W'.setCell ⟨w0.heap.size, k, none⟩ (.bool t)) := by
  have hlt := h.lt
  obtain ⟨bs, hl, he, hr⟩ := h.row
  have hr2 : W'.rowIs w0.heap.size 4 n (fun j => .bool (bs[j]?.getD false)) := World.rowIs.of_block hr (ho.block _ (by omega) hlt)
  have h2 := h.off.trans ho
  refine ⟨⟨h2.os, h2.tape, h2.output, ?_, fun j hj hj2 => ?_⟩, ?_, bs ++ [t], ?_, ?_, ?_⟩
  · have := h2.size
    simpa [World.setCell] using this
  · exact (Below.heap_setCell _ _ _ _ (by show j ≠ w0.heap.size; omega)).trans (h2.block j hj hj2)
  · show Mt p (m0.run (lvlsG vs k ++ [_])) _
    rw [run_snoc]
    exact hm.of_block (Below.heap_setCell _ _ _ _ (by show p ≠ w0.heap.size; omega))
  · simp [hl]
  · show _ = m0.tells (lvlsG vs k ++ [_])
    rw [tells_snoc, ← he, ← ht]
  · refine (World.rowIs.set hr2 k (.bool t)).congr (fun i _ => ?_)
    by_cases hik : i = k
    · subst hik
      simp [hl]
    · rcases Nat.lt_or_ge i k with h3 | h3
      · simp [hik, List.getElem?_append_left (show i < bs.length by omega)]
      · rw [if_neg hik, List.getElem?_eq_none (by omega), List.getElem?_eq_none (by simp [hl]; omega)]
end

set_option maxHeartbeats 1000000 in
theorem answers_any (p : Nat) (m : MeterI) (a : Option Addr) (n cap : Nat) (vs : Nat → RowV) (w : World) (hM : Mt p m w) (hok : m.Ok) (hg : Grid w a n vs) (h48 : n ≤ 1000) (ha : 0 < n → ∀ x, a = some x → x.block ≠ p) (hr : ∀ i, i < n → 0 < (vs i).len → ∀ x, (vs i).a = some x → x.block ≠ p) :
    Calls Try.prog 17 #[.func (.func 13) #[.pointer (some ⟨p, 0, none⟩)] #[], .slice a n cap] w fun e w' => ∃ a' c', e = .returned (.slice a' n c') ∧ Bs w' a' n (m.tells (lvlsG vs n)) ∧ Off p w w' := by
  have hm2 : (n : Int) ≤ 9223372036854775807 := by omega
  have hpw := hM.lt
  have hmk := fun W : World => run_make_row' (P := Try.prog) 24 4 (.bool false) 1 Try.underlying24 info_bool rfl .i64 .i64 n (by omega) (by omega) W
  have H0 : Hid (An w p n m vs 0 (w.alloc (.cells (madeCells #[.bool false] n) 4))) := An.start hM
  have HG : Hid (∀ W, Off p w W → ∀ k, k < n → (∃ b off, a = some ⟨b, off, none⟩ ∧ W.cell? ⟨b, off + k, none⟩ = some (.slice (vs k).a (vs k).len (vs k).cap)) ∧ Zs W (vs k).a (vs k).len (vs k).zs ∧ (vs k).len ≤ (vs k).cap ∧ (vs k).cap ≤ maxLen) := fun W hW k hk => by
    obtain ⟨b, off, e, hl, hc⟩ := hg.at_ (by omega)
    obtain ⟨hz, h1, h2⟩ := hg.row k hk
    refine ⟨⟨b, off, e, (World.cell?_of_block (w := w) (w' := W) (a := ⟨b, off + k, none⟩) (hW.block b (ha (by omega) _ e) hl)).trans (hc k hk)⟩, ?_, h1, h2⟩
    rcases Nat.eq_zero_or_pos (vs k).len with h0 | h0
    · exact ⟨hz.len, fun h => absurd h (by omega)⟩
    · exact Zs.off hz hW (hr k hk h0)
  have HOK : Hid m.Ok := hok
  clear hM hok hg ha hr
  go_enter Try.func17, Try.ntmps17
  go_wp2
  go_loopw [6, 7, 13] (fun _ _ i W => ∃ k : Nat, k ≤ n ∧ i = .int .i64 k ∧ Hid (An w p n m vs k W)) (fun _ _ i _ => n - (intOf i).toNat)
  case atStart => exact ⟨0, Nat.zero_le _, rfl, H0⟩
  case round =>
    clear H0
    obtain ⟨k, hk, rfl, HH⟩ := hrel
    by_cases hkn : k < n
    · have hkI : (k : Int) < (n : Int) := by omega
      obtain ⟨⟨b, off, rfl, hck⟩, hz, h1, h2⟩ := HG.out wr HH.out.off k hkn
      have HS : Hid (Calls Try.prog 13 #[.pointer (some ⟨p, 0, none⟩), .slice (vs k).a (vs k).len (vs k).cap] wr fun e w' => ∃ t, e = .returned (.bool t) ∧ Hid (An w p n m vs (k + 1) (w'.setCell ⟨w.heap.size, k, none⟩ (.bool t))) ∧ (∃ y, w'.cell? ⟨w.heap.size, k, none⟩ = some y) ∧ w'.frozen? ⟨w.heap.size, k, none⟩ = false) :=
        (pStep p _ _ _ _ _ wr HH.out.mt (run_ok vs HOK.out k) hz h1 h2).mono (fun e w' ⟨g1, g2, g3⟩ => by
          have hlt := HH.out.lt
          obtain ⟨bs, _, _, hr⟩ := HH.out.row
          have hr2 : w'.rowIs w.heap.size 4 n (fun j => .bool (bs[j]?.getD false)) := World.rowIs.of_block hr (g3.block _ (by omega) hlt)
          exact ⟨_, g1, HH.out.next hpw g3 g2 rfl, ⟨_, World.rowIs.cell hr2 hkn⟩, World.rowIs.frozen hr2 k⟩)
      clear hz h1 h2 HH
      generalize vs k = q at hck HS
      go_wp2_with (go_at_call 13; go_loud (refine HS.out.mono ?_; rintro e w3 ⟨t, rfl, HH3, ⟨y, hy⟩, hf⟩))
      go_roundw
      case rel => exact ⟨k + 1, by omega, by go_num, HH3⟩
      case measure => simp [intOf]; omega
    · obtain rfl : k = n := by omega
      go_wp2
      go_ret
      obtain ⟨bs, hl, he, hr⟩ := HH.out.row
      refine ⟨_, _, rfl, ?_, HH.out.off⟩
      rw [← he]
      exact ⟨hl, fun _ => ⟨_, 0, rfl, World.rowIs.lt hr, fun i hi => by rw [Nat.zero_add]; exact World.rowIs.cell hr hi⟩⟩

theorem pEach (p : Nat) (m : MeterI) (a : Option Addr) (n cap : Nat) (vs : Nat → RowV) (w : World) (hM : Mt p m w) (hok : m.Ok) (hg : Grid w a n vs) (h48 : n ≤ 1000) (ha : 0 < n → ∀ x, a = some x → x.block ≠ p) (hr : ∀ i, i < n → 0 < (vs i).len → ∀ x, (vs i).a = some x → x.block ≠ p) :
    Calls Try.prog 10 #[.pointer (some ⟨p, 0, none⟩), .slice a n cap] w fun e w' => ∃ a' c', e = .returned (.slice a' n c') ∧ Bs w' a' n (m.tells (lvlsG vs n)) ∧ Off p w w' := by
  have H : Hid (∀ v, Calls Try.prog 17 #[.func (.func 13) #[.pointer (some ⟨p, 0, none⟩)] #[], .slice a n cap] w _) := fun (_ : Nat) => answers_any p m a n cap vs w hM hok hg h48 ha hr
  clear hM hg ha hr
  go_enter Try.func10, Try.ntmps10
  go_wp2_with (go_at_call 17; go_loud (refine (H.out 0).mono ?_; rintro e w' ⟨a', c', rfl, hB, ho⟩))
  go_ret
  exact ⟨_, _, rfl, hB, ho⟩
end Vad
end Go.Proofs.Ytklpicfeajmadaa
