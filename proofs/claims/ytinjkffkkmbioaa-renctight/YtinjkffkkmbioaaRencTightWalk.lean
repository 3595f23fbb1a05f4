/- The law of the least number of bytes answers true. -/
import Derived.Test.YtinjkffkkmbioaaRencBackWalk
namespace Go.Proofs.Ytinjkffkkmbioaa
open Go.RowKit

theorem AskedAll.keep {w W : World} {a : Option Addr} {len : Nat} {vs : Nat → ActV} (h : AskedAll w a len vs) (hb : Below w.heap.size w W) : AskedAll W a len vs := by
  refine ⟨fun h0 => ?_⟩
  obtain ⟨b, off, ha, hc⟩ := h.cells h0
  exact ⟨b, off, ha, fun V hV i hi => hc V (hb.trans (hV.mono hb.size)) i hi⟩

theorem ask_next {w : World} {a : Option Addr} {len : Nat} {vs : Nat → ActV} (HA : AskedAll w a len vs) {k : Nat} (hk : k < len) {W : World} (hW : Below w.heap.size w W) {S : Nat → Prop} {p : Nat} {s : Es} (he : Wd S p s W) (hok : WOk s) (hc : s.cnt ≤ 10000) :
    Calls Try.prog 20 #[.pointer (some ⟨p, 0, none⟩), .agg #[.int .i64 ((vs k).z 0), .int .i64 ((vs k).z 1), .int .i64 ((vs k).z 2), .int .i64 ((vs k).z 3), .slice (vs k).a (vs k).len (vs k).cap]] W fun e w' => ∃ (z err : Int) (s2 : Es) (S' : Nat → Prop), e = .returned (.tuple #[.int .i64 z, .int .i64 err]) ∧ Wd S' p s2 w' ∧ Went S W S' w' ∧ Next (avOf (vs k)) s s2 := by
  obtain ⟨b, off, _, hc2⟩ := HA.cells (by omega)
  refine (written_any _ _ _ _ _ _ _ _ S p s W he hok.1 (by omega) (hc2 W hW k hk).2).mono fun e w' h => ?_
  obtain ⟨z, err, s2, S', h1, h2, h3, h4, _⟩ := h.next hok
  exact ⟨z, err, s2, S', h1, h2, h3, h4⟩

set_option maxRecDepth 100000 in
set_option maxHeartbeats 3200000 in
theorem rencTight.run (a0 : Option Addr) (len cap : Nat) (vs : Nat → ActV) (w : World) (h0 : AskedAll w a0 len vs) (k0 : len ≤ 100) :
    Calls Try.prog 5 #[.slice a0 len cap] w fun e w' => e = .returned (.bool true) ∧ Below w.heap.size w w' := by
  have hb := Below.refl w.heap.size w
  have HA : Hid (AskedAll w a0 len vs) := h0
  have k0I : (len : Int) ≤ 100 := by omega
  have HS : Hid (∀ p S W, Wd S p initE W → ∃ s, Wd S p s W ∧ WOk s ∧ s.cnt ≤ 33 ∧ tellS s = 1) := fun p S W h => ⟨initE, h, initE_ok, by decide, tell_first⟩
  clear h0
  go_enter Try.func5, Try.ntmps5
  go_wp2_with (first
    | (go_at_call 9; refine (awake_any _).mono ?_; rintro e w1 ⟨rfl, hb1⟩; replace hb := hb.trans (hb1.mono hb.size); clear hb1)
    | (go_at_call 10; go_loud (refine (newE_any _).mono ?_; rintro e w1 ⟨p, S, rfl, he0, hS, hb1⟩; obtain ⟨s, he, hok⟩ := HS.out _ _ _ he0; clear he0; replace hS := fun k hk => Nat.le_trans hb.size (hS k hk); replace hb := hb.trans (hb1.mono hb.size); clear hb1)))
  have HE0 : Hid (WOk s ∧ s.cnt ≤ 33 + 48 * 0 ∧ 1 ≤ tellS s ∧ tellS s ≤ 1 + 48 * ((0 : Nat) : Int) ∧ Wd S p s w1 ∧ ∀ k, S k → w.heap.size ≤ k) := ⟨hok.1, hok.2.1, by have := hok.2.2; omega, by have := hok.2.2; omega, he, hS⟩
  clear he hS hok HS
  go_loopw [4] (fun i W => Below w.heap.size w W ∧ ∃ (k : Nat) (s : Es) (S : Nat → Prop), k ≤ len ∧ i = .int .i64 k ∧ Hid (WOk s ∧ s.cnt ≤ 33 + 48 * k ∧ 1 ≤ tellS s ∧ tellS s ≤ 1 + 48 * (k : Int) ∧ Wd S p s W ∧ ∀ k, S k → w.heap.size ≤ k)) (fun i _ => len - (intOf i).toNat)
  case atStart => exact ⟨hb, 0, s, S, Nat.zero_le _, rfl, HE0.out⟩
  case round =>
    clear hb HE0
    obtain ⟨hb, k, s, S, hk, rfl, hr⟩ := hrel
    by_cases hlt : k < len
    · obtain ⟨b, off, rfl, hcells⟩ := ask_cells HA.out hlt
      obtain ⟨c0, c1, c2, c3, c4⟩ := hcells wr hb
      have HC : Hid (∀ W, Below w.heap.size w W → Wd S p s W → Calls Try.prog 20 #[.pointer (some ⟨p, 0, none⟩), .agg #[.int .i64 ((vs k).z 0), .int .i64 ((vs k).z 1), .int .i64 ((vs k).z 2), .int .i64 ((vs k).z 3), .slice (vs k).a (vs k).len (vs k).cap]] W fun e w' => ∃ (z err : Int) (s2 : Es) (S' : Nat → Prop), e = .returned (.tuple #[.int .i64 z, .int .i64 err]) ∧ Wd S' p s2 w' ∧ Went S W S' w' ∧ Next (avOf (vs k)) s s2) := fun W hW he => ask_next HA.out hlt hW he hr.out.1 (by have := hr.out.2.1; omega)
      have HK : Hid (s.cnt ≤ 33 + 48 * k ∧ 1 ≤ tellS s ∧ tellS s ≤ 1 + 48 * (k : Int) ∧ ∀ k, S k → w.heap.size ≤ k) := ⟨hr.out.2.1, hr.out.2.2.1, hr.out.2.2.2.1, hr.out.2.2.2.2.2⟩
      have he := hr.out.2.2.2.2.1
      have HA2 : Hid (avOf (vs k) = avOf (vs k)) := rfl
      generalize (vs k).z 0 = o0 at *
      generalize (vs k).z 1 = o1 at *
      generalize (vs k).z 2 = o2 at *
      generalize (vs k).z 3 = o3 at *
      clear hcells hr
      go_wp2_with (go_at_call 20; go_loud (refine (HC.out _ hb he).mono ?_; rintro e w2 ⟨z, err, s2, S2, rfl, he2, hw2, hn2⟩; have hS2 := hw2.above HK.out.2.2.2 hb.size; replace hb := hb.trans (hw2.below HK.out.2.2.2 hb.size); have HN : Hid (WOk s2 ∧ s2.cnt ≤ 33 + 48 * (k + 1) ∧ 1 ≤ tellS s2 ∧ tellS s2 ≤ 1 + 48 * ((k + 1 : Nat) : Int)) := ⟨hn2.ok, (by have := hn2.cnt; have := HK.out.1; omega), (by have := hn2.low; have := HK.out.2.1; omega), (by have := hn2.high; have := HK.out.2.2.1; omega)⟩; clear hn2 hw2))
      go_roundw
      case rel => exact ⟨hb, k + 1, s2, S2, by omega, by go_num, HN.out.1, HN.out.2.1, HN.out.2.2.1, HN.out.2.2.2, he2, hS2⟩
      case measure => simp [intOf]; omega
    · obtain rfl : k = len := by omega
      obtain ⟨T, hT⟩ : ∃ T, tellS s = T := ⟨_, rfl⟩
      have HT1 : Hid (∀ W, Wd S p s W → Calls Try.prog 11 #[.pointer (some ⟨p, 0, none⟩)] W fun e w' => e = .returned (.int .i64 T) ∧ ∃ k, w' = W.drewN k) := fun W h => tell_int h hr.out.1.1 (by have := hr.out.2.1; omega) hT
      have t1 : 1 ≤ T := by rw [← hT]; exact hr.out.2.2.1
      have t2 : T ≤ 4801 := by have := hr.out.2.2.2.1; rw [hT] at this; omega
      have he := hr.out.2.2.2.2.1
      have HB : Hid (∀ W z, Below w.heap.size w W → 0 ≤ z → z ≤ 1275 → Calls Try.prog 4 #[.slice a0 k cap, .int .i64 z] W fun e w' => e = .returned (.bool true) ∧ Below W.heap.size W w') := fun W z hW h1 h2 => by
        obtain ⟨m, rfl⟩ := Int.eq_ofNat_of_zero_le h1
        exact rencBack.run a0 k cap vs m W (HA.out.keep hW) k0 (by omega)
      have y1 : Hid True := trivial
      clear hr hT
      go_wp2_with (first
        | (go_at_call 11; go_loud (refine (HT1.out _ he).mono ?_; rintro e w3 ⟨rfl, kk, rfl⟩; replace hb := Below.drewN hb kk))
        | (go_at_call 4; clear y1; go_loud (refine (HB.out _ _ hb (by omega) (by omega)).mono ?_; rintro e w4 ⟨rfl, hb4⟩; replace hb := hb.trans (hb4.mono hb.size); clear hb4))
        | (go_at_call 4; go_loud (refine (HB.out _ _ hb (by omega) (by omega)).mono ?_; rintro e w5 ⟨rfl, hb5⟩; replace hb := hb.trans (hb5.mono hb.size); clear hb5)))
      go_ret
      exact ⟨rfl, hb⟩

theorem rencTight.walk (a0 : Option Addr) (len cap : Nat) (vs : Nat → ActV) (w : World) (h0 : ActsAt 4 w a0 len cap vs) (hs : ∀ i, i < len → (vs i).cap * 8 ≤ 140737488351232) :
    Calls Try.prog 5 #[.slice a0 len cap] w fun e w' => e = .returned (.bool true) ∧ Below w.heap.size w w' := by
  by_cases k0 : len ≤ 100
  · exact rencTight.run a0 len cap vs w (askedAll h0 hs) k0
  · have hlen := (acts_at4 h0).1
    have k0I : (100 : Int) < (len : Int) := by omega
    have hb := Below.refl w.heap.size w
    clear h0 hs
    go_enter Try.func5, Try.ntmps5
    go_wp2_with (go_at_call 9; refine (awake_any _).mono ?_; rintro e w1 ⟨rfl, hb1⟩; replace hb := hb.trans (hb1.mono hb.size); clear hb1)
    go_ret
    exact ⟨rfl, hb⟩

end Go.Proofs.Ytinjkffkkmbioaa
