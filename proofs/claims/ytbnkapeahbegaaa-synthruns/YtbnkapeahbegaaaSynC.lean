/- Whether a part may be: the law's own word. (By wip/mkrgood10.py.) -/
import Derived.Test.YtbnkapeahbegaaaSynB
namespace Go.Proofs.Ytbnkapeahbegaaa
open Go.RowKit
set_option linter.unusedVariables false

set_option maxRecDepth 100000 in
set_option maxHeartbeats 1000000 in
theorem rgood_no0 (a : Option Addr) (n cap : Nat) (l : List Int) (loud lag t0 t1 t2 t3 t4 : Int) (fa : Option Addr) (fn fcap : Nat) (f : List Int) (w : World) (hz : Zs w a n l) (hf : Zs w fa fn f) (hn : n ≤ 9223372036854775807) (hfn : fn ≤ 9223372036854775807) (c1 : (n : Int) < 1) :
    Calls Try.prog 15 #[.agg #[.slice a n cap, .int .i64 loud, .int .i64 lag, .int .i64 t0, .int .i64 t1, .int .i64 t2, .int .i64 t3, .int .i64 t4, .slice fa fn fcap]] w fun e w' => e = .returned (.bool false) ∧ Below w.heap.size w w' := by
  have hB : Hid (Below w.heap.size w (w.alloc (.cells #[.slice a n cap, .int .i64 loud, .int .i64 lag, .int .i64 t0, .int .i64 t1, .int .i64 t2, .int .i64 t3, .int .i64 t4, .slice fa fn fcap] 31))) := (Below.refl _ _).alloc (Nat.le_refl _) _
  clear hz hf
  go_enter Try.func15, Try.ntmps15
  go_wp2
  go_ret
  exact ⟨rfl, hB.out⟩

set_option maxRecDepth 100000 in
set_option maxHeartbeats 1000000 in
theorem rgood_no1 (a : Option Addr) (n cap : Nat) (l : List Int) (loud lag t0 t1 t2 t3 t4 : Int) (fa : Option Addr) (fn fcap : Nat) (f : List Int) (w : World) (hz : Zs w a n l) (hf : Zs w fa fn f) (hn : n ≤ 9223372036854775807) (hfn : fn ≤ 9223372036854775807) (c1 : (1 : Int) ≤ n) (c2 : (480 : Int) < n) :
    Calls Try.prog 15 #[.agg #[.slice a n cap, .int .i64 loud, .int .i64 lag, .int .i64 t0, .int .i64 t1, .int .i64 t2, .int .i64 t3, .int .i64 t4, .slice fa fn fcap]] w fun e w' => e = .returned (.bool false) ∧ Below w.heap.size w w' := by
  have hB : Hid (Below w.heap.size w (w.alloc (.cells #[.slice a n cap, .int .i64 loud, .int .i64 lag, .int .i64 t0, .int .i64 t1, .int .i64 t2, .int .i64 t3, .int .i64 t4, .slice fa fn fcap] 31))) := (Below.refl _ _).alloc (Nat.le_refl _) _
  clear hz hf
  go_enter Try.func15, Try.ntmps15
  go_wp2
  go_ret
  exact ⟨rfl, hB.out⟩

set_option maxRecDepth 100000 in
set_option maxHeartbeats 1000000 in
theorem rgood_no2 (a : Option Addr) (n cap : Nat) (l : List Int) (loud lag t0 t1 t2 t3 t4 : Int) (fa : Option Addr) (fn fcap : Nat) (f : List Int) (w : World) (hz : Zs w a n l) (hf : Zs w fa fn f) (hn : n ≤ 9223372036854775807) (hfn : fn ≤ 9223372036854775807) (c1 : (1 : Int) ≤ n) (c2 : (n : Int) ≤ 480) (c4 : loud < 0) :
    Calls Try.prog 15 #[.agg #[.slice a n cap, .int .i64 loud, .int .i64 lag, .int .i64 t0, .int .i64 t1, .int .i64 t2, .int .i64 t3, .int .i64 t4, .slice fa fn fcap]] w fun e w' => e = .returned (.bool false) ∧ Below w.heap.size w w' := by
  have hB : Hid (Below w.heap.size w (w.alloc (.cells #[.slice a n cap, .int .i64 loud, .int .i64 lag, .int .i64 t0, .int .i64 t1, .int .i64 t2, .int .i64 t3, .int .i64 t4, .slice fa fn fcap] 31))) := (Below.refl _ _).alloc (Nat.le_refl _) _
  clear hz hf
  go_enter Try.func15, Try.ntmps15
  go_wp2
  go_ret
  exact ⟨rfl, hB.out⟩

set_option maxRecDepth 100000 in
set_option maxHeartbeats 1000000 in
theorem rgood_no3 (a : Option Addr) (n cap : Nat) (l : List Int) (loud lag t0 t1 t2 t3 t4 : Int) (fa : Option Addr) (fn fcap : Nat) (f : List Int) (w : World) (hz : Zs w a n l) (hf : Zs w fa fn f) (hn : n ≤ 9223372036854775807) (hfn : fn ≤ 9223372036854775807) (c1 : (1 : Int) ≤ n) (c2 : (n : Int) ≤ 480) (c4 : 0 ≤ loud) (c5 : 262144 < loud) :
    Calls Try.prog 15 #[.agg #[.slice a n cap, .int .i64 loud, .int .i64 lag, .int .i64 t0, .int .i64 t1, .int .i64 t2, .int .i64 t3, .int .i64 t4, .slice fa fn fcap]] w fun e w' => e = .returned (.bool false) ∧ Below w.heap.size w w' := by
  have hB : Hid (Below w.heap.size w (w.alloc (.cells #[.slice a n cap, .int .i64 loud, .int .i64 lag, .int .i64 t0, .int .i64 t1, .int .i64 t2, .int .i64 t3, .int .i64 t4, .slice fa fn fcap] 31))) := (Below.refl _ _).alloc (Nat.le_refl _) _
  clear hz hf
  go_enter Try.func15, Try.ntmps15
  go_wp2
  go_ret
  exact ⟨rfl, hB.out⟩

set_option maxRecDepth 100000 in
set_option maxHeartbeats 1000000 in
theorem rgood_no4x (a : Option Addr) (n cap : Nat) (l : List Int) (loud lag t0 t1 t2 t3 t4 : Int) (fa : Option Addr) (fn fcap : Nat) (f : List Int) (w : World) (hz : Zs w a n l) (hf : Zs w fa fn f) (hn : n ≤ 9223372036854775807) (hfn : fn ≤ 9223372036854775807) (c1 : (1 : Int) ≤ n) (c2 : (n : Int) ≤ 480) (c4 : 0 ≤ loud) (c5 : loud ≤ 262144) (hgz : (lag != 0) = true) (hg3 : lag < 3) :
    Calls Try.prog 15 #[.agg #[.slice a n cap, .int .i64 loud, .int .i64 lag, .int .i64 t0, .int .i64 t1, .int .i64 t2, .int .i64 t3, .int .i64 t4, .slice fa fn fcap]] w fun e w' => e = .returned (.bool false) ∧ Below w.heap.size w w' := by
  have hB : Hid (Below w.heap.size w (w.alloc (.cells #[.slice a n cap, .int .i64 loud, .int .i64 lag, .int .i64 t0, .int .i64 t1, .int .i64 t2, .int .i64 t3, .int .i64 t4, .slice fa fn fcap] 31))) := (Below.refl _ _).alloc (Nat.le_refl _) _
  clear hz hf
  go_enter Try.func15, Try.ntmps15
  go_wp2
  go_ret
  exact ⟨rfl, hB.out⟩

set_option maxRecDepth 100000 in
set_option maxHeartbeats 1000000 in
theorem rgood_no4w (a : Option Addr) (n cap : Nat) (l : List Int) (loud lag t0 t1 t2 t3 t4 : Int) (fa : Option Addr) (fn fcap : Nat) (f : List Int) (w : World) (hz : Zs w a n l) (hf : Zs w fa fn f) (hn : n ≤ 9223372036854775807) (hfn : fn ≤ 9223372036854775807) (c1 : (1 : Int) ≤ n) (c2 : (n : Int) ≤ 480) (c4 : 0 ≤ loud) (c5 : loud ≤ 262144) (hgz : (lag != 0) = true) (hg3 : 3 ≤ lag) (hg318 : 318 < lag) :
    Calls Try.prog 15 #[.agg #[.slice a n cap, .int .i64 loud, .int .i64 lag, .int .i64 t0, .int .i64 t1, .int .i64 t2, .int .i64 t3, .int .i64 t4, .slice fa fn fcap]] w fun e w' => e = .returned (.bool false) ∧ Below w.heap.size w w' := by
  have hB : Hid (Below w.heap.size w (w.alloc (.cells #[.slice a n cap, .int .i64 loud, .int .i64 lag, .int .i64 t0, .int .i64 t1, .int .i64 t2, .int .i64 t3, .int .i64 t4, .slice fa fn fcap] 31))) := (Below.refl _ _).alloc (Nat.le_refl _) _
  clear hz hf
  go_enter Try.func15, Try.ntmps15
  go_wp2
  go_ret
  exact ⟨rfl, hB.out⟩

set_option maxRecDepth 100000 in
set_option maxHeartbeats 1000000 in
theorem rgood_no5z (a : Option Addr) (n cap : Nat) (l : List Int) (loud lag t0 t1 t2 t3 t4 : Int) (fa : Option Addr) (fn fcap : Nat) (f : List Int) (w : World) (hz : Zs w a n l) (hf : Zs w fa fn f) (hn : n ≤ 9223372036854775807) (hfn : fn ≤ 9223372036854775807) (c1 : (1 : Int) ≤ n) (c2 : (n : Int) ≤ 480) (c4 : 0 ≤ loud) (c5 : loud ≤ 262144) (hgz : (lag != 0) = false) (c8 : (32 : Int) < fn) :
    Calls Try.prog 15 #[.agg #[.slice a n cap, .int .i64 loud, .int .i64 lag, .int .i64 t0, .int .i64 t1, .int .i64 t2, .int .i64 t3, .int .i64 t4, .slice fa fn fcap]] w fun e w' => e = .returned (.bool false) ∧ Below w.heap.size w w' := by
  have hB : Hid (Below w.heap.size w (w.alloc (.cells #[.slice a n cap, .int .i64 loud, .int .i64 lag, .int .i64 t0, .int .i64 t1, .int .i64 t2, .int .i64 t3, .int .i64 t4, .slice fa fn fcap] 31))) := (Below.refl _ _).alloc (Nat.le_refl _) _
  clear hz hf
  go_enter Try.func15, Try.ntmps15
  go_wp2
  go_ret
  exact ⟨rfl, hB.out⟩

set_option maxRecDepth 100000 in
set_option maxHeartbeats 1000000 in
theorem rgood_no5y (a : Option Addr) (n cap : Nat) (l : List Int) (loud lag t0 t1 t2 t3 t4 : Int) (fa : Option Addr) (fn fcap : Nat) (f : List Int) (w : World) (hz : Zs w a n l) (hf : Zs w fa fn f) (hn : n ≤ 9223372036854775807) (hfn : fn ≤ 9223372036854775807) (c1 : (1 : Int) ≤ n) (c2 : (n : Int) ≤ 480) (c4 : 0 ≤ loud) (c5 : loud ≤ 262144) (hgz : (lag != 0) = true) (hg3 : 3 ≤ lag) (hg318 : lag ≤ 318) (c8 : (32 : Int) < fn) :
    Calls Try.prog 15 #[.agg #[.slice a n cap, .int .i64 loud, .int .i64 lag, .int .i64 t0, .int .i64 t1, .int .i64 t2, .int .i64 t3, .int .i64 t4, .slice fa fn fcap]] w fun e w' => e = .returned (.bool false) ∧ Below w.heap.size w w' := by
  have hB : Hid (Below w.heap.size w (w.alloc (.cells #[.slice a n cap, .int .i64 loud, .int .i64 lag, .int .i64 t0, .int .i64 t1, .int .i64 t2, .int .i64 t3, .int .i64 t4, .slice fa fn fcap] 31))) := (Below.refl _ _).alloc (Nat.le_refl _) _
  clear hz hf
  go_enter Try.func15, Try.ntmps15
  go_wp2
  go_ret
  exact ⟨rfl, hB.out⟩

set_option maxRecDepth 100000 in
set_option maxHeartbeats 4000000 in
theorem rgood_goz (a : Option Addr) (n cap : Nat) (l : List Int) (loud lag t0 t1 t2 t3 t4 : Int) (fa : Option Addr) (fn fcap : Nat) (f : List Int) (w : World) (hz : Zs w a n l) (hf : Zs w fa fn f) (hn : n ≤ 9223372036854775807) (hfn : fn ≤ 9223372036854775807) (c1 : (1 : Int) ≤ n) (c2 : (n : Int) ≤ 480) (c4 : 0 ≤ loud) (c5 : loud ≤ 262144) (hgz : (lag != 0) = false) (c8 : (fn : Int) ≤ 32) :
    Calls Try.prog 15 #[.agg #[.slice a n cap, .int .i64 loud, .int .i64 lag, .int .i64 t0, .int .i64 t1, .int .i64 t2, .int .i64 t3, .int .i64 t4, .slice fa fn fcap]] w fun e w' => e = .returned (.bool (withinB 16 l && (withinB 128 [t0, t1, t2, t3, t4] && withinB 131072 f))) ∧ Below w.heap.size w w' := by
  have hB : Hid (Below w.heap.size w (w.alloc (.cells #[.slice a n cap, .int .i64 loud, .int .i64 lag, .int .i64 t0, .int .i64 t1, .int .i64 t2, .int .i64 t3, .int .i64 t4, .slice fa fn fcap] 31))) := (Below.refl _ _).alloc (Nat.le_refl _) _
  have h1 := hz.alloc (.cells #[.slice a n cap, .int .i64 loud, .int .i64 lag, .int .i64 t0, .int .i64 t1, .int .i64 t2, .int .i64 t3, .int .i64 t4, .slice fa fn fcap] 31)
  have h2 := taps_zs w (.slice a n cap) (.int .i64 loud) (.int .i64 lag) (.slice fa fn fcap) t0 t1 t2 t3 t4 31
  have h3 := hf.alloc (.cells #[.slice a n cap, .int .i64 loud, .int .i64 lag, .int .i64 t0, .int .i64 t1, .int .i64 t2, .int .i64 t3, .int .i64 t4, .slice fa fn fcap] 31)
  have HL1 : Hid (l.length = n) := hz.len
  have HL3 : Hid (f.length = fn) := hf.len
  have HZ1 : Hid (0 < n → ∃ b off, a = some ⟨b, off, none⟩ ∧ ∀ i, i < n → (w.alloc (.cells #[.slice a n cap, .int .i64 loud, .int .i64 lag, .int .i64 t0, .int .i64 t1, .int .i64 t2, .int .i64 t3, .int .i64 t4, .slice fa fn fcap] 31)).cell? ⟨b, off + i, none⟩ = some (.int .i64 (l[i]?.getD 0))) := fun h => by
    obtain ⟨b, off, e, _, hc⟩ := h1.at_ h
    exact ⟨b, off, e, hc⟩
  have HZ2 : Hid (∀ i, i < 5 → (w.alloc (.cells #[.slice a n cap, .int .i64 loud, .int .i64 lag, .int .i64 t0, .int .i64 t1, .int .i64 t2, .int .i64 t3, .int .i64 t4, .slice fa fn fcap] 31)).cell? ⟨w.heap.size, 3 + i, none⟩ = some (.int .i64 ([t0, t1, t2, t3, t4][i]?.getD 0))) := fun i hi => by
    obtain ⟨b, off, e, _, hc⟩ := h2.at_ (by decide)
    cases e
    exact hc i hi
  have HZ3 : Hid (0 < fn → ∃ b off, fa = some ⟨b, off, none⟩ ∧ ∀ i, i < fn → (w.alloc (.cells #[.slice a n cap, .int .i64 loud, .int .i64 lag, .int .i64 t0, .int .i64 t1, .int .i64 t2, .int .i64 t3, .int .i64 t4, .slice fa fn fcap] 31)).cell? ⟨b, off + i, none⟩ = some (.int .i64 (f[i]?.getD 0))) := fun h => by
    obtain ⟨b, off, e, _, hc⟩ := h3.at_ h
    exact ⟨b, off, e, hc⟩
  clear hz hf h1 h2 h3
  obtain ⟨G1, hG1⟩ : ∃ G, withinB 16 l = G := ⟨_, rfl⟩
  obtain ⟨T, hT⟩ : ∃ T, [t0, t1, t2, t3, t4] = T := ⟨_, rfl⟩
  have HLT : Hid (T.length = 5) := by show _ = _; rw [← hT]; rfl
  rw [hT] at HZ2
  obtain ⟨G2, hG2⟩ : ∃ G, withinB 128 T = G := ⟨_, rfl⟩
  obtain ⟨G3, hG3⟩ : ∃ G, withinB 131072 f = G := ⟨_, rfl⟩
  rw [hT, hG1, hG2, hG3]
  have HG1 : Hid (withinB 16 (l.drop 0) = G1) := hG1
  have HG2 : Hid (withinB 128 (T.drop 0) = G2) := hG2
  have HG3 : Hid (withinB 131072 (f.drop 0) = G3) := hG3
  clear hG1 hG2 hG3 hT
  go_enter Try.func15, Try.ntmps15
  go_wp2
  go_loop [3] (fun x => ∃ k : Nat, k ≤ n ∧ x = .int .i64 k ∧ Hid (withinB 16 (l.drop k) = G1)) (fun x => n - (intOf x).toNat)
  case atStart => exact ⟨0, Nat.zero_le _, rfl, HG1⟩
  case round =>
    clear HG1
    obtain ⟨k, hk, rfl, HS⟩ := hrel
    by_cases hlt : k < n
    · obtain ⟨b, off, rfl, hc⟩ := HZ1.out (by omega)
      have hck := hc k hlt
      have hst := HS.out
      rw [withinB_drop (by have := HL1.out; omega)] at hst
      generalize l[k]?.getD 0 = x at hck hst
      have HST : Hid ((decide (-16 ≤ x ∧ x ≤ 16) && withinB 16 (l.drop (k + 1))) = G1) := hst
      clear hst hc HS HZ1 HZ2 HZ3 HG2 HG3
      by_cases hx : -16 ≤ x ∧ x ≤ 16
      · obtain ⟨hx1, hx2⟩ := hx
        have HN : Hid (withinB 16 (l.drop (k + 1)) = G1) := by
          show _ = _
          rw [← HST.out, decide_eq_true ⟨hx1, hx2⟩]
          rfl
        clear HST
        go_wp2
        go_round
        case rel => exact ⟨k + 1, by omega, by go_num, HN⟩
        case measure => simp [intOf]; omega
      · have hGf : G1 = false := by
          rw [← HST.out, decide_eq_false hx]
          rfl
        subst hGf
        clear HST
        by_cases hx1 : x < -16
        · clear hx
          go_wp2
          go_ret
          exact ⟨rfl, hB.out⟩
        · have hx2 : 16 < x := by omega
          clear hx
          go_wp2
          go_ret
          exact ⟨rfl, hB.out⟩
    · have : G1 = true := by
        rw [← HS.out]
        exact withinB_end (by have := HL1.out; omega)
      subst this
      clear HS HZ1
      go_wp2
      go_loop [4] (fun x => ∃ k : Nat, k ≤ 5 ∧ x = .int .i64 k ∧ Hid (withinB 128 (T.drop k) = G2)) (fun x => 5 - (intOf x).toNat)
      case atStart => exact ⟨0, Nat.zero_le _, rfl, HG2⟩
      case round =>
        clear HG2
        obtain ⟨j, hj, rfl, HS⟩ := hrel
        by_cases hlj : j < 5
        · have hck := HZ2.out j hlj
          have hst := HS.out
          rw [withinB_drop (by have := HLT.out; omega)] at hst
          generalize T[j]?.getD 0 = x at hck hst
          have HST : Hid ((decide (-128 ≤ x ∧ x ≤ 128) && withinB 128 (T.drop (j + 1))) = G2) := hst
          have hjI : (j : Int) < 5 := by omega
          have hjI0 : (0 : Int) ≤ (j : Int) := by omega
          clear hst HS HZ2 HZ3 HG3
          by_cases hx : -128 ≤ x ∧ x ≤ 128
          · obtain ⟨hx1, hx2⟩ := hx
            have HN : Hid (withinB 128 (T.drop (j + 1)) = G2) := by
              show _ = _
              rw [← HST.out, decide_eq_true ⟨hx1, hx2⟩]
              rfl
            clear HST
            go_wp2
            go_round
            case rel => exact ⟨j + 1, by omega, by go_num, HN⟩
            case measure => simp [intOf]; omega
          · have hGf : G2 = false := by
              rw [← HST.out, decide_eq_false hx]
              rfl
            subst hGf
            clear HST
            by_cases hx1 : x < -128
            · clear hx
              go_wp2
              go_ret
              exact ⟨rfl, hB.out⟩
            · have hx2 : 128 < x := by omega
              clear hx
              go_wp2
              go_ret
              exact ⟨rfl, hB.out⟩
        · have : G2 = true := by
            rw [← HS.out]
            exact withinB_end (by have := HLT.out; omega)
          subst this
          clear HS HZ2
          go_wp2
          go_loop [5] (fun x => ∃ k : Nat, k ≤ fn ∧ x = .int .i64 k ∧ Hid (withinB 131072 (f.drop k) = G3)) (fun x => fn - (intOf x).toNat)
          case atStart => exact ⟨0, Nat.zero_le _, rfl, HG3⟩
          case round =>
            clear HG3
            obtain ⟨q, hq, rfl, HS⟩ := hrel
            by_cases hlq : q < fn
            · obtain ⟨b, off, rfl, hc⟩ := HZ3.out (by omega)
              have hck := hc q hlq
              have hst := HS.out
              rw [withinB_drop (by have := HL3.out; omega)] at hst
              generalize f[q]?.getD 0 = x at hck hst
              have HST : Hid ((decide (-131072 ≤ x ∧ x ≤ 131072) && withinB 131072 (f.drop (q + 1))) = G3) := hst
              clear hst hc HS HZ3
              by_cases hx : -131072 ≤ x ∧ x ≤ 131072
              · obtain ⟨hx1, hx2⟩ := hx
                have HN : Hid (withinB 131072 (f.drop (q + 1)) = G3) := by
                  show _ = _
                  rw [← HST.out, decide_eq_true ⟨hx1, hx2⟩]
                  rfl
                clear HST
                go_wp2
                go_round
                case rel => exact ⟨q + 1, by omega, by go_num, HN⟩
                case measure => simp [intOf]; omega
              · have hGf : G3 = false := by
                  rw [← HST.out, decide_eq_false hx]
                  rfl
                subst hGf
                clear HST
                by_cases hx1 : x < -131072
                · clear hx
                  go_wp2
                  go_ret
                  exact ⟨rfl, hB.out⟩
                · have hx2 : 131072 < x := by omega
                  clear hx
                  go_wp2
                  go_ret
                  exact ⟨rfl, hB.out⟩
            · have : G3 = true := by
                rw [← HS.out]
                exact withinB_end (by have := HL3.out; omega)
              subst this
              clear HS HZ3
              go_wp2
              go_ret
              exact ⟨rfl, hB.out⟩

set_option maxRecDepth 100000 in
set_option maxHeartbeats 4000000 in
theorem rgood_goy (a : Option Addr) (n cap : Nat) (l : List Int) (loud lag t0 t1 t2 t3 t4 : Int) (fa : Option Addr) (fn fcap : Nat) (f : List Int) (w : World) (hz : Zs w a n l) (hf : Zs w fa fn f) (hn : n ≤ 9223372036854775807) (hfn : fn ≤ 9223372036854775807) (c1 : (1 : Int) ≤ n) (c2 : (n : Int) ≤ 480) (c4 : 0 ≤ loud) (c5 : loud ≤ 262144) (hgz : (lag != 0) = true) (hg3 : 3 ≤ lag) (hg318 : lag ≤ 318) (c8 : (fn : Int) ≤ 32) :
    Calls Try.prog 15 #[.agg #[.slice a n cap, .int .i64 loud, .int .i64 lag, .int .i64 t0, .int .i64 t1, .int .i64 t2, .int .i64 t3, .int .i64 t4, .slice fa fn fcap]] w fun e w' => e = .returned (.bool (withinB 16 l && (withinB 128 [t0, t1, t2, t3, t4] && withinB 131072 f))) ∧ Below w.heap.size w w' := by
  have hB : Hid (Below w.heap.size w (w.alloc (.cells #[.slice a n cap, .int .i64 loud, .int .i64 lag, .int .i64 t0, .int .i64 t1, .int .i64 t2, .int .i64 t3, .int .i64 t4, .slice fa fn fcap] 31))) := (Below.refl _ _).alloc (Nat.le_refl _) _
  have h1 := hz.alloc (.cells #[.slice a n cap, .int .i64 loud, .int .i64 lag, .int .i64 t0, .int .i64 t1, .int .i64 t2, .int .i64 t3, .int .i64 t4, .slice fa fn fcap] 31)
  have h2 := taps_zs w (.slice a n cap) (.int .i64 loud) (.int .i64 lag) (.slice fa fn fcap) t0 t1 t2 t3 t4 31
  have h3 := hf.alloc (.cells #[.slice a n cap, .int .i64 loud, .int .i64 lag, .int .i64 t0, .int .i64 t1, .int .i64 t2, .int .i64 t3, .int .i64 t4, .slice fa fn fcap] 31)
  have HL1 : Hid (l.length = n) := hz.len
  have HL3 : Hid (f.length = fn) := hf.len
  have HZ1 : Hid (0 < n → ∃ b off, a = some ⟨b, off, none⟩ ∧ ∀ i, i < n → (w.alloc (.cells #[.slice a n cap, .int .i64 loud, .int .i64 lag, .int .i64 t0, .int .i64 t1, .int .i64 t2, .int .i64 t3, .int .i64 t4, .slice fa fn fcap] 31)).cell? ⟨b, off + i, none⟩ = some (.int .i64 (l[i]?.getD 0))) := fun h => by
    obtain ⟨b, off, e, _, hc⟩ := h1.at_ h
    exact ⟨b, off, e, hc⟩
  have HZ2 : Hid (∀ i, i < 5 → (w.alloc (.cells #[.slice a n cap, .int .i64 loud, .int .i64 lag, .int .i64 t0, .int .i64 t1, .int .i64 t2, .int .i64 t3, .int .i64 t4, .slice fa fn fcap] 31)).cell? ⟨w.heap.size, 3 + i, none⟩ = some (.int .i64 ([t0, t1, t2, t3, t4][i]?.getD 0))) := fun i hi => by
    obtain ⟨b, off, e, _, hc⟩ := h2.at_ (by decide)
    cases e
    exact hc i hi
  have HZ3 : Hid (0 < fn → ∃ b off, fa = some ⟨b, off, none⟩ ∧ ∀ i, i < fn → (w.alloc (.cells #[.slice a n cap, .int .i64 loud, .int .i64 lag, .int .i64 t0, .int .i64 t1, .int .i64 t2, .int .i64 t3, .int .i64 t4, .slice fa fn fcap] 31)).cell? ⟨b, off + i, none⟩ = some (.int .i64 (f[i]?.getD 0))) := fun h => by
    obtain ⟨b, off, e, _, hc⟩ := h3.at_ h
    exact ⟨b, off, e, hc⟩
  clear hz hf h1 h2 h3
  obtain ⟨G1, hG1⟩ : ∃ G, withinB 16 l = G := ⟨_, rfl⟩
  obtain ⟨T, hT⟩ : ∃ T, [t0, t1, t2, t3, t4] = T := ⟨_, rfl⟩
  have HLT : Hid (T.length = 5) := by show _ = _; rw [← hT]; rfl
  rw [hT] at HZ2
  obtain ⟨G2, hG2⟩ : ∃ G, withinB 128 T = G := ⟨_, rfl⟩
  obtain ⟨G3, hG3⟩ : ∃ G, withinB 131072 f = G := ⟨_, rfl⟩
  rw [hT, hG1, hG2, hG3]
  have HG1 : Hid (withinB 16 (l.drop 0) = G1) := hG1
  have HG2 : Hid (withinB 128 (T.drop 0) = G2) := hG2
  have HG3 : Hid (withinB 131072 (f.drop 0) = G3) := hG3
  clear hG1 hG2 hG3 hT
  go_enter Try.func15, Try.ntmps15
  go_wp2
  go_loop [3] (fun x => ∃ k : Nat, k ≤ n ∧ x = .int .i64 k ∧ Hid (withinB 16 (l.drop k) = G1)) (fun x => n - (intOf x).toNat)
  case atStart => exact ⟨0, Nat.zero_le _, rfl, HG1⟩
  case round =>
    clear HG1
    obtain ⟨k, hk, rfl, HS⟩ := hrel
    by_cases hlt : k < n
    · obtain ⟨b, off, rfl, hc⟩ := HZ1.out (by omega)
      have hck := hc k hlt
      have hst := HS.out
      rw [withinB_drop (by have := HL1.out; omega)] at hst
      generalize l[k]?.getD 0 = x at hck hst
      have HST : Hid ((decide (-16 ≤ x ∧ x ≤ 16) && withinB 16 (l.drop (k + 1))) = G1) := hst
      clear hst hc HS HZ1 HZ2 HZ3 HG2 HG3
      by_cases hx : -16 ≤ x ∧ x ≤ 16
      · obtain ⟨hx1, hx2⟩ := hx
        have HN : Hid (withinB 16 (l.drop (k + 1)) = G1) := by
          show _ = _
          rw [← HST.out, decide_eq_true ⟨hx1, hx2⟩]
          rfl
        clear HST
        go_wp2
        go_round
        case rel => exact ⟨k + 1, by omega, by go_num, HN⟩
        case measure => simp [intOf]; omega
      · have hGf : G1 = false := by
          rw [← HST.out, decide_eq_false hx]
          rfl
        subst hGf
        clear HST
        by_cases hx1 : x < -16
        · clear hx
          go_wp2
          go_ret
          exact ⟨rfl, hB.out⟩
        · have hx2 : 16 < x := by omega
          clear hx
          go_wp2
          go_ret
          exact ⟨rfl, hB.out⟩
    · have : G1 = true := by
        rw [← HS.out]
        exact withinB_end (by have := HL1.out; omega)
      subst this
      clear HS HZ1
      go_wp2
      go_loop [4] (fun x => ∃ k : Nat, k ≤ 5 ∧ x = .int .i64 k ∧ Hid (withinB 128 (T.drop k) = G2)) (fun x => 5 - (intOf x).toNat)
      case atStart => exact ⟨0, Nat.zero_le _, rfl, HG2⟩
      case round =>
        clear HG2
        obtain ⟨j, hj, rfl, HS⟩ := hrel
        by_cases hlj : j < 5
        · have hck := HZ2.out j hlj
          have hst := HS.out
          rw [withinB_drop (by have := HLT.out; omega)] at hst
          generalize T[j]?.getD 0 = x at hck hst
          have HST : Hid ((decide (-128 ≤ x ∧ x ≤ 128) && withinB 128 (T.drop (j + 1))) = G2) := hst
          have hjI : (j : Int) < 5 := by omega
          have hjI0 : (0 : Int) ≤ (j : Int) := by omega
          clear hst HS HZ2 HZ3 HG3
          by_cases hx : -128 ≤ x ∧ x ≤ 128
          · obtain ⟨hx1, hx2⟩ := hx
            have HN : Hid (withinB 128 (T.drop (j + 1)) = G2) := by
              show _ = _
              rw [← HST.out, decide_eq_true ⟨hx1, hx2⟩]
              rfl
            clear HST
            go_wp2
            go_round
            case rel => exact ⟨j + 1, by omega, by go_num, HN⟩
            case measure => simp [intOf]; omega
          · have hGf : G2 = false := by
              rw [← HST.out, decide_eq_false hx]
              rfl
            subst hGf
            clear HST
            by_cases hx1 : x < -128
            · clear hx
              go_wp2
              go_ret
              exact ⟨rfl, hB.out⟩
            · have hx2 : 128 < x := by omega
              clear hx
              go_wp2
              go_ret
              exact ⟨rfl, hB.out⟩
        · have : G2 = true := by
            rw [← HS.out]
            exact withinB_end (by have := HLT.out; omega)
          subst this
          clear HS HZ2
          go_wp2
          go_loop [5] (fun x => ∃ k : Nat, k ≤ fn ∧ x = .int .i64 k ∧ Hid (withinB 131072 (f.drop k) = G3)) (fun x => fn - (intOf x).toNat)
          case atStart => exact ⟨0, Nat.zero_le _, rfl, HG3⟩
          case round =>
            clear HG3
            obtain ⟨q, hq, rfl, HS⟩ := hrel
            by_cases hlq : q < fn
            · obtain ⟨b, off, rfl, hc⟩ := HZ3.out (by omega)
              have hck := hc q hlq
              have hst := HS.out
              rw [withinB_drop (by have := HL3.out; omega)] at hst
              generalize f[q]?.getD 0 = x at hck hst
              have HST : Hid ((decide (-131072 ≤ x ∧ x ≤ 131072) && withinB 131072 (f.drop (q + 1))) = G3) := hst
              clear hst hc HS HZ3
              by_cases hx : -131072 ≤ x ∧ x ≤ 131072
              · obtain ⟨hx1, hx2⟩ := hx
                have HN : Hid (withinB 131072 (f.drop (q + 1)) = G3) := by
                  show _ = _
                  rw [← HST.out, decide_eq_true ⟨hx1, hx2⟩]
                  rfl
                clear HST
                go_wp2
                go_round
                case rel => exact ⟨q + 1, by omega, by go_num, HN⟩
                case measure => simp [intOf]; omega
              · have hGf : G3 = false := by
                  rw [← HST.out, decide_eq_false hx]
                  rfl
                subst hGf
                clear HST
                by_cases hx1 : x < -131072
                · clear hx
                  go_wp2
                  go_ret
                  exact ⟨rfl, hB.out⟩
                · have hx2 : 131072 < x := by omega
                  clear hx
                  go_wp2
                  go_ret
                  exact ⟨rfl, hB.out⟩
            · have : G3 = true := by
                rw [← HS.out]
                exact withinB_end (by have := HL3.out; omega)
              subst this
              clear HS HZ3
              go_wp2
              go_ret
              exact ⟨rfl, hB.out⟩

theorem bne0 {v : Int} (h : ¬ v = 0) : (v != 0) = true := by simp [h]
theorem rgood_any (a : Option Addr) (n cap : Nat) (l : List Int) (loud lag t0 t1 t2 t3 t4 : Int) (fa : Option Addr) (fn fcap : Nat) (f : List Int) (w : World) (hz : Zs w a n l) (hf : Zs w fa fn f) (hn : n ≤ 9223372036854775807) (hfn : fn ≤ 9223372036854775807) :
    Calls Try.prog 15 #[.agg #[.slice a n cap, .int .i64 loud, .int .i64 lag, .int .i64 t0, .int .i64 t1, .int .i64 t2, .int .i64 t3, .int .i64 t4, .slice fa fn fcap]] w fun e w' => e = .returned (.bool (goodB l loud lag [t0, t1, t2, t3, t4] f)) ∧ Below w.heap.size w w' := by
  have hl := hz.len
  have hfl := hf.len
  have e : goodB l loud lag [t0, t1, t2, t3, t4] f = (decide (1 ≤ n ∧ n ≤ 480 ∧ 0 ≤ loud ∧ loud ≤ 262144 ∧ (lag = 0 ∨ 3 ≤ lag ∧ lag ≤ 318) ∧ fn ≤ 32) && (withinB 16 l && (withinB 128 [t0, t1, t2, t3, t4] && withinB 131072 f))) := by
    unfold goodB lagB
    rw [hl, hfl, Bool.eq_iff_iff]
    simp only [Bool.and_eq_true, decide_eq_true_eq]
    constructor
    · rintro ⟨h1, h2, h3, h4, h5, h6, h7, h8, h9⟩
      exact ⟨⟨h1, h2, h4, h5, h6, h8⟩, h3, h7, h9⟩
    · rintro ⟨⟨h1, h2, h4, h5, h6, h8⟩, h3, h7, h9⟩
      exact ⟨h1, h2, h3, h4, h5, h6, h7, h8, h9⟩
  by_cases hall : 1 ≤ n ∧ n ≤ 480 ∧ 0 ≤ loud ∧ loud ≤ 262144 ∧ (lag = 0 ∨ 3 ≤ lag ∧ lag ≤ 318) ∧ fn ≤ 32
  · rw [e, decide_eq_true hall, Bool.true_and]
    obtain ⟨c1, c2, c4, c5, c6, c8⟩ := hall
    rcases Decidable.em (lag = 0) with hg | hg
    · exact rgood_goz a n cap l loud lag t0 t1 t2 t3 t4 fa fn fcap f w hz hf hn hfn (by omega) (by omega) c4 c5 (by simp [hg]) (by omega)
    · exact rgood_goy a n cap l loud lag t0 t1 t2 t3 t4 fa fn fcap f w hz hf hn hfn (by omega) (by omega) c4 c5 (bne0 hg) (by omega) (by omega) (by omega)
  · rw [e, decide_eq_false hall, Bool.false_and]
    clear e
    by_cases c1 : 1 ≤ n
    · by_cases c2 : n ≤ 480
      · by_cases c4 : 0 ≤ loud
        · by_cases c5 : loud ≤ 262144
          · rcases Decidable.em (lag = 0) with hg | hg
            · exact rgood_no5z a n cap l loud lag t0 t1 t2 t3 t4 fa fn fcap f w hz hf hn hfn (by omega) (by omega) c4 c5 (by simp [hg]) (by omega)
            · by_cases h3 : lag < 3
              · exact rgood_no4x a n cap l loud lag t0 t1 t2 t3 t4 fa fn fcap f w hz hf hn hfn (by omega) (by omega) c4 c5 (bne0 hg) h3
              · by_cases h318 : 318 < lag
                · exact rgood_no4w a n cap l loud lag t0 t1 t2 t3 t4 fa fn fcap f w hz hf hn hfn (by omega) (by omega) c4 c5 (bne0 hg) (by omega) h318
                · exact rgood_no5y a n cap l loud lag t0 t1 t2 t3 t4 fa fn fcap f w hz hf hn hfn (by omega) (by omega) c4 c5 (bne0 hg) (by omega) (by omega) (by omega)
          · exact rgood_no3 a n cap l loud lag t0 t1 t2 t3 t4 fa fn fcap f w hz hf hn hfn (by omega) (by omega) c4 (by omega)
        · exact rgood_no2 a n cap l loud lag t0 t1 t2 t3 t4 fa fn fcap f w hz hf hn hfn (by omega) (by omega) (by omega)
      · exact rgood_no1 a n cap l loud lag t0 t1 t2 t3 t4 fa fn fcap f w hz hf hn hfn (by omega) (by omega)
    · exact rgood_no0 a n cap l loud lag t0 t1 t2 t3 t4 fa fn fcap f w hz hf hn hfn (by omega)

end Go.Proofs.Ytbnkapeahbegaaa
