/- The program's writer: bits from the end. -/
import Derived.Test.YtdbgcbbfnjoebaaRwC
namespace Go.Proofs.Ytdbgcbbfnjoebaa
open Go.RowKit

theorem bitsE_bad (S : Nat → Prop) (p : Nat) (s : Es) (v n : Int) (w : World) (h : Wd S p s w) (hn : ¬ (0 ≤ n ∧ n ≤ 24 ∧ 0 ≤ v ∧ v.toNat < 2 ^ n.toNat)) :
    Calls Try.prog 55 #[.pointer (some ⟨p, 0, none⟩), .int .i64 v, .int .i64 n] w fun e w' => e = .returned (.int .i64 1) ∧ ∃ S', Wd S' p s w' ∧ Went S w S' w' := by
  have HH : Hid (Wd S p s w) := h
  clear h
  by_cases h1 : n < 0
  · clear hn
    go_enter Try.func55, Try.ntmps55
    go_wp2
    go_ret
    exact ⟨rfl, S, HH.out, Went.refl _ _⟩
  · by_cases h2 : 24 < n
    · clear hn
      go_enter Try.func55, Try.ntmps55
      go_wp2
      go_ret
      exact ⟨rfl, S, HH.out, Went.refl _ _⟩
    · by_cases h3 : v < 0
      · clear hn
        go_enter Try.func55, Try.ntmps55
        go_wp2
        go_ret
        exact ⟨rfl, S, HH.out, Went.refl _ _⟩
      · obtain ⟨m, rfl⟩ := Int.eq_ofNat_of_zero_le (show 0 ≤ n by omega)
        have hp := two_pow_24 m (by omega)
        have h4 : (2 : Int) ^ m ≤ v := by
          rw [← pow_cast]
          rw [Int.toNat_natCast] at hn
          rcases Nat.lt_or_ge v.toNat (2 ^ m) with h | h
          · exact absurd ⟨by omega, by omega, by omega, h⟩ hn
          · omega
        clear hn
        go_enter Try.func55, Try.ntmps55
        go_wp2
        go_ret
        exact ⟨rfl, S, HH.out, Went.refl _ _⟩

theorem flush_stop {n : Nat} {s : Es} (h : ¬ 8 ≤ s.waiting) : flushE n s = s := by
  cases n with
  | zero => rfl
  | succ n => unfold flushE; rw [if_neg h]

theorem flush_step {n : Nat} {s : Es} (h : 8 ≤ s.waiting) : flushE (n + 1) s = flushE n (flushS s) := if_pos h

theorem or_wait {x v m : Nat} (h1 : x < 2 ^ m) (hm : m ≤ 7) (hv : v < 16777216) : bits .or .i64 (x : Int) (wrap64 ((v : Int) * 2 ^ m)) = ((x + v * 2 ^ m : Nat) : Int) := by
  have h2 : 2 ^ m ≤ 2 ^ 7 := Nat.pow_le_pow_right (by decide) hm
  have h3 : 2 ^ 7 = 128 := by decide
  have h4 : v * 2 ^ m ≤ 16777216 * 128 := Nat.mul_le_mul (by omega) (by omega)
  have e : (v : Int) * 2 ^ m = ((v * 2 ^ m : Nat) : Int) := by rw [Int.natCast_mul, pow_cast]
  rw [e, IntWalk.wrap64_in _ ⟨by omega, by omega⟩, or_i64 _ _ (by omega) (by omega), or_shift _ _ _ h1]

theorem Wd.add {S : Nat → Prop} {p : Nat} {s : Es} {w : World} (h : Wd S p s w) (v n : Nat) {x y z : Int} (hx : x = (s.wait + v * 2 ^ s.waiting : Nat)) (hy : y = (s.waiting + n : Nat)) (hz : z = (s.cnt + n : Nat)) :
    Wd S p (addE v n s) (((w.setCell ⟨p, 4, none⟩ (.int .i64 x)).setCell ⟨p, 5, none⟩ (.int .i64 y)).setCell ⟨p, 6, none⟩ (.int .i64 z)) :=
  ((h.setWait _ hx).setWaiting _ hy).setCnt _ hz

theorem Wd.flush {S : Nat → Prop} {p : Nat} {t : Es} {w : World} (h : Wd S p { t with back := backE t } w) {x y : Int} (hx : x = (t.wait / 256 : Nat)) (hy : y = (t.waiting - 8 : Nat)) :
    Wd S p (flushS t) ((w.setCell ⟨p, 4, none⟩ (.int .i64 x)).setCell ⟨p, 5, none⟩ (.int .i64 y)) :=
  (h.setWait _ hx).setWaiting _ hy

set_option maxRecDepth 100000 in
set_option maxHeartbeats 3200000 in
theorem bitsE_any (S : Nat → Prop) (p : Nat) (s : Es) (v m : Nat) (w : World) (h : Wd S p s w) (hi : InvE s) (hm : m ≤ 24) (hv : v < 2 ^ m) (hc : s.cnt ≤ 1000000000000000) :
    Calls Try.prog 55 #[.pointer (some ⟨p, 0, none⟩), .int .i64 v, .int .i64 m] w fun e w' => e = .returned (.int .i64 0) ∧ ∃ S', Wd S' p (bitsE v m s) w' ∧ Went S w S' w' := by
  obtain ⟨_, _, q4, q5, q6, qf⟩ := h.fields
  have i1 := hi.few
  have hmI : (m : Int) ≤ 24 := by omega
  have hp := two_pow_24 m hm
  have hv2 : v < 16777216 := by
    have h3 : 2 ^ m ≤ 2 ^ 24 := Nat.pow_le_pow_right (by decide) hm
    omega
  have hv3 : (v : Int) < 2 ^ m := by rw [← pow_cast]; omega
  have hwl : s.wait < 128 := by
    have h1 := hi.pre.wait
    have h3 : 2 ^ s.waiting ≤ 2 ^ 7 := Nat.pow_le_pow_right (by decide) (by omega)
    omega
  have HO : Hid (bits .or .i64 (s.wait : Int) (wrap64 ((v : Int) * 2 ^ s.waiting)) = ((s.wait + v * 2 ^ s.waiting : Nat) : Int)) := or_wait hi.pre.wait (by omega) hv2
  have HH : Hid (Wd S p s w) := h
  obtain ⟨E, hE⟩ : ∃ E, bitsE v m s = E := ⟨_, rfl⟩
  rw [hE]
  have H0 : Hid (flushE 3 (addE v m s) = E ∧ PreE (addE v m s) ∧ (addE v m s).waiting < 8 * (3 + 1)) := ⟨hE, addE_pre hi.pre hv, by show s.waiting + m < 32; omega⟩
  clear hE h hi hv
  go_enter Try.func55, Try.ntmps55
  go_wp2
  go_region_with (fail)
  all_goals
    go_wp2
    go_loopg [] 3 (fun k W => ∃ t S', Hid (flushE k t = E ∧ PreE t ∧ t.waiting < 8 * (k + 1) ∧ t.waiting < 32 ∧ Wd S' p t W ∧ Went S w S' W))
    case atStart => exact ⟨addE v m s, S, H0.out.1, H0.out.2.1, H0.out.2.2, H0.out.2.2, (HH.out.add v m HO.out (by omega) (by omega)).drew, ((((Went.refl S w).set HH.out.home _ _).set HH.out.home _ _).set HH.out.home _ _).drew⟩
    case round =>
      obtain ⟨t, S', hr⟩ := hrel
      obtain ⟨r1, r2, r3, r4, r5, r6⟩ := hr.out
      have R6 : Hid (Went S w S' wr) := r6
      have R2 : Hid (PreE t) := r2
      have R5 : Hid (Wd S' p t wr) := r5
      by_cases hge : 8 ≤ t.waiting
      · obtain ⟨k, rfl⟩ : ∃ k, gk = k + 1 := ⟨gk - 1, by omega⟩
        have H1 : Hid (flushE k (flushS t) = E ∧ PreE (flushS t) ∧ (flushS t).waiting < 8 * (k + 1) ∧ (flushS t).waiting < 32) :=
          ⟨by rw [← r1, flush_step hge], flushS_pre r2 hge, by show t.waiting - 8 < _; omega, by show t.waiting - 8 < _; omega⟩
        have hwl2 : t.wait ≤ 4294967296 := by
          have h1 := r2.wait
          have h3 : 2 ^ t.waiting ≤ 2 ^ 32 := Nat.pow_le_pow_right (by decide) (by omega)
          omega
        have hlen := r2.len
        obtain ⟨fv, bv, hw⟩ := r5
        obtain ⟨fa, fcap, rfl, fn1, fn2⟩ := hw.front.form
        obtain ⟨ba, bcap, rfl, bn1, bn2⟩ := hw.back.form
        have HW : Hid (We S' p (.slice fa t.front.length fcap) (.slice ba t.back.length bcap) t wr) := hw
        obtain ⟨c0, _, _, c3, c4, c5, _, cf⟩ := hw.fields
        have hF1 : t.front.length ≤ 10000 := by omega
        have hF2 : t.back.length ≤ 10000 := by omega
        have hge2 : ((8 : Int) ≤ (t.waiting : Int)) = True := eq_true (by omega)
        have HGE : Hid (8 ≤ t.waiting) := hge
        clear r1 r2 r3 r6 hr hw fn1 fn2 bn1 bn2 hge q4 q5 q6 qf hp hv3 HO H0
        by_cases hfull : 1275 ≤ t.front.length + t.back.length
        · have HE2 : Hid (backE t = t.back) := backE_full hfull
          go_wp2_with (go_at_call 73; refine (full_run p _ _ _ _ fa ba _ c0 c3 hF1 hF2).mono ?_; rw [decide_eq_true hfull]; rintro e w' ⟨rfl, kk, rfl⟩)
          go_roundg k
          case measure => omega
          case rel =>
            refine ⟨flushS t, S', H1.out.1, H1.out.2.1, H1.out.2.2.1, H1.out.2.2.2, ?_, ((R6.out.drewN _).set R5.out.home _ _).set R5.out.home _ _⟩
            refine Wd.flush ?_ (by omega) (by have := HGE.out; omega)
            rw [HE2.out]
            exact R5.out.drewN _
        · have HE2 : Hid (backE t = t.back ++ [t.wait % 256]) := backE_open hfull
          have HZ : Hid (IntKind.u8.wrap (t.wait : Int) = (t.wait % 256 : Nat)) := wrap_u8_nat t.wait
          have HPV : Hid ((Value.slice ba t.back.length bcap).ownBlock ≠ some p) := fun e => (HW.out.back.mine p e).2 rfl
          have HW1 : Hid (∀ k, We S' p (.slice fa t.front.length fcap) (.slice ba t.back.length bcap) t (wr.drewN k)) := fun k => HW.out.of_blocks (fun _ _ => rfl) (Nat.le_refl _)
          have HO1 : Hid (∀ k, (wr.drewN k).ownsRow 0 5 1 (.slice ba t.back.length bcap) t.back.length (bvals t.back)) := fun k => (HW1.out k).back.owns
          have HSZ : Hid (∀ k, p < (wr.drewN k).heap.size) := fun k => (HW1.out k).size
          have HA : ∀ k o, ((wr.drewN k).alloc o).cell? ⟨p, 3, none⟩ = some (.slice ba t.back.length bcap) := fun k o => (World.cell?_of_block (w := wr.drewN k) (Below.heap_alloc (wr.drewN k) o p (HSZ.out k))).trans c3
          go_wp2_with (go_at_call 73; refine (full_run p _ _ _ _ fa ba _ c0 c3 hF1 hF2).mono ?_; rw [decide_eq_false hfull]; rintro e w' ⟨rfl, kk, rfl⟩)
          go_region_law ((refine step_append_byte (w := wr.drewN kk) (by first | exact grown_alloc_drew (wr.drewN kk) _ | exact grown_drew_alloc (wr.drewN kk) _) (t.wait % 256) _ HZ.out (by first | exact heap_alloc_new (wr.drewN kk) _ | exact heap_alloc_new (wr.drewN kk).drew _) (.slice ba t.back.length bcap) t.back.length t.back (HO1.out kk) hF2 p (HSZ.out kk) HPV.out (by rfl) (.tmp 64) (.tmp 70) (by rfl) (by rfl) (by rfl) ?_; intro g2 cap2 w2 ho2 hg2 hat2 hcc hff))
          all_goals
            obtain ⟨S2, k1, k2⟩ := (HW1.out kk).backDone rfl hg2 ho2 hat2
            have K1 : Hid (Wd S2 p { t with back := t.back ++ [t.wait % 256] } (w2.setCell ⟨p, 3, none⟩ (.slice (some ⟨g2, 0, none⟩) (t.back.length + 1) cap2))) := k1
            have K2 : Hid (Went S' (wr.drewN kk) S2 (w2.setCell ⟨p, 3, none⟩ (.slice (some ⟨g2, 0, none⟩) (t.back.length + 1) cap2))) := k2
            have hsz2 := k1.lt p k1.home
            clear k1 k2 ho2 hg2 hat2
            go_wp2
            go_roundg k
            case measure => omega
            case rel =>
              refine ⟨flushS t, S2, H1.out.1, H1.out.2.1, H1.out.2.2.1, H1.out.2.2.2, ?_, (((R6.out.drewN kk).trans K2.out).set K1.out.home _ _).set K1.out.home _ _⟩
              refine Wd.flush ?_ (by omega) (by have := HGE.out; omega)
              rw [HE2.out]
              exact K1.out
      · have HT : Hid (t = E) := by rw [flush_stop hge] at r1; exact r1
        obtain ⟨_, _, _, c5, _, cf⟩ := r5.fields
        have hge2 : ((8 : Int) ≤ (t.waiting : Int)) = False := eq_false (by omega)
        clear r1 r2 r3 r5 r6 hr hge q4 q5 q6 qf hp hv3 HO H0
        go_wp2
        go_ret
        exact ⟨rfl, S', by rw [← HT.out]; exact R5.out, R6.out⟩

end Go.Proofs.Ytdbgcbbfnjoebaa
