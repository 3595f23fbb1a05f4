/- The law of how Tell rises answers true. -/
import Derived.Test.YtinjkffkkmbioabRencC
namespace Go.Proofs.Ytinjkffkkmbioab
open Go.RowKit

set_option maxRecDepth 100000 in
set_option maxHeartbeats 3200000 in
theorem rencRising.run (a0 : Option Addr) (len cap : Nat) (vs : Nat → ActV) (w : World) (h0 : ActsAt 4 w a0 len cap vs) (hs : ∀ i, i < len → (vs i).cap * 8 ≤ 140737488351232) (k0 : len ≤ 80) :
    Calls Try.prog 3 #[.slice a0 len cap] w fun e w' => e = .returned (.bool true) ∧ Below w.heap.size w w' := by
  have hb := Below.refl w.heap.size w
  have HA : Hid (AskedAll w a0 len vs) := askedAll h0 hs
  have k0I : (len : Int) ≤ 80 := by omega
  have HS : Hid (∀ p S W, Wd S p initE W → ∃ s, Wd S p s W ∧ WOk s ∧ s.cnt ≤ 33) := fun p S W h => ⟨initE, h, initE_ok, by decide⟩
  clear h0 hs
  go_enter Try.func3, Try.ntmps3
  go_wp2_with (first
    | (go_at_call 4; refine (awake_any _).mono ?_; rintro e w1 ⟨rfl, hb1⟩; replace hb := hb.trans (hb1.mono hb.size); clear hb1)
    | (go_at_call 5; go_loud (refine (newE_any _).mono ?_; rintro e w1 ⟨p, S, rfl, he0, hS, hb1⟩; obtain ⟨s, he, hok, hcnt⟩ := HS.out _ _ _ he0; clear he0; replace hS := fun k hk => Nat.le_trans hb.size (hS k hk); replace hb := hb.trans (hb1.mono hb.size); clear hb1))
    | (go_at_call 6; go_loud (refine (tellE_any S p s _ he hok.1.wide hok.1.pre.rhigh (by omega)).mono ?_; rintro e w2 ⟨rfl, kk, rfl⟩; replace he := he.drewN kk; replace hb := Below.drewN hb kk)))
  have HT0 : Hid (∃ T, tellS s = T) := ⟨_, rfl⟩
  obtain ⟨T0, hT0⟩ := HT0.out
  have HE0 : Hid (tellS s = T0 ∧ WOk s ∧ s.cnt ≤ 33 + 48 * 0 ∧ Wd S p s (w1.drewN kk) ∧ ∀ k, S k → w.heap.size ≤ k) := ⟨hT0, hok, by omega, he, hS⟩
  rw [hT0]
  clear hT0 HT0 he hS hok hcnt HS
  go_loopw [4, 5] (fun was i W => Below w.heap.size w W ∧ ∃ (k : Nat) (s : Es) (S : Nat → Prop) (T : Int), k ≤ len ∧ i = .int .i64 k ∧ was = .int .i64 T ∧ Hid (tellS s = T ∧ WOk s ∧ s.cnt ≤ 33 + 48 * k ∧ Wd S p s W ∧ ∀ k, S k → w.heap.size ≤ k)) (fun _ i _ => len - (intOf i).toNat)
  case atStart => exact ⟨hb, 0, s, S, T0, Nat.zero_le _, rfl, rfl, HE0.out⟩
  case round =>
    clear hb HE0
    obtain ⟨hb, k, s, S, T, hk, rfl, rfl, hr⟩ := hrel
    obtain ⟨hT, hok, hcs, he, hS⟩ := hr.out
    by_cases hlt : k < len
    · obtain ⟨b, off, rfl, hcells⟩ := HA.out.cells (by omega)
      obtain ⟨hc1, hask⟩ := hcells wr hb k hlt
      obtain ⟨c0, c1, c2, c3, c4, _, hbd, hlen, hnil, _⟩ := hc1
      have HC : Hid (∀ W, W = wr → Calls Try.prog 7 #[.pointer (some ⟨p, 0, none⟩), .agg #[.int .i64 ((vs k).z 0), .int .i64 ((vs k).z 1), .int .i64 ((vs k).z 2), .int .i64 ((vs k).z 3), .slice (vs k).a (vs k).len (vs k).cap]] W fun e w' => ∃ (z err : Int) (s2 : Es) (S' : Nat → Prop), e = .returned (.tuple #[.int .i64 z, .int .i64 err]) ∧ Wd S' p s2 w' ∧ Went S W S' w' ∧ Next (avOf (vs k)) s s2) := fun W hW => by
        subst hW
        refine (written_any _ _ _ _ _ _ _ _ S p s W he hok.1 (by omega) hask).mono fun e w' h => ?_
        obtain ⟨z, err, s2, S', h1, h2, h3, h4, _⟩ := h.next hok
        exact ⟨z, err, s2, S', h1, h2, h3, h4⟩
      have HK : Hid (tellS s = T ∧ s.cnt ≤ 33 + 48 * k ∧ ∀ k, S k → w.heap.size ≤ k) := ⟨hT, hcs, hS⟩
      have hTb : -100 ≤ T ∧ T ≤ 10000 := by have := hok.tell; omega
      generalize (vs k).z 0 = o0 at *
      generalize (vs k).z 1 = o1 at *
      generalize (vs k).z 2 = o2 at *
      generalize (vs k).z 3 = o3 at *
      clear hcells hask hr hT hok hcs he hS hbd hlen hnil
      go_wp2_with (first
        | (go_at_call 7; go_loud (refine (HC.out _ rfl).mono ?_; rintro e w2 ⟨z, err, s2, S2, rfl, he2, hw2, hn2⟩; have hS2 := hw2.above HK.out.2.2 hb.size; replace hb := hb.trans (hw2.below HK.out.2.2 hb.size); have hT2 : ∃ T2, tellS s2 = T2 := ⟨_, rfl⟩; obtain ⟨T2, hT2⟩ := hT2; have hlow : T ≤ T2 := (by have := hn2.low; have := HK.out.1; omega); have hhigh : T2 ≤ T + 48 := (by have := hn2.high; have := HK.out.1; omega); have hcn2 : s2.cnt ≤ 33 + 48 * (k + 1) := (by have := hn2.cnt; have := HK.out.2.1; omega); have HN : Hid (tellS s2 = T2 ∧ WOk s2) := ⟨hT2, hn2.ok⟩; clear hT2 hn2 hw2))
        | (go_at_call 6; go_loud (refine (tellE_any S2 p s2 _ he2 HN.out.2.1.wide HN.out.2.1.pre.rhigh (by omega)).mono ?_; rw [HN.out.1]; rintro e w3 ⟨rfl, kk, rfl⟩; replace he2 := he2.drewN kk; replace hb := Below.drewN hb kk)))
      go_roundw
      case rel => exact ⟨hb, k + 1, s2, S2, T2, by omega, by go_num, rfl, HN.out.1, HN.out.2, hcn2, he2, hS2⟩
      case measure => simp [intOf]; omega
    · obtain rfl : k = len := by omega
      clear hr hT hok hcs he hS
      go_wp2
      go_ret
      exact ⟨rfl, hb⟩

theorem rencRising.walk (a0 : Option Addr) (len cap : Nat) (vs : Nat → ActV) (w : World) (h0 : ActsAt 4 w a0 len cap vs) (hs : ∀ i, i < len → (vs i).cap * 8 ≤ 140737488351232) :
    Calls Try.prog 3 #[.slice a0 len cap] w fun e w' => e = .returned (.bool true) ∧ Below w.heap.size w w' := by
  by_cases k0 : len ≤ 80
  · exact rencRising.run a0 len cap vs w h0 hs k0
  · have hlen := (acts_at4 h0).1
    have k0I : (80 : Int) < (len : Int) := by omega
    have hb := Below.refl w.heap.size w
    clear h0 hs
    go_enter Try.func3, Try.ntmps3
    go_wp2_with (go_at_call 4; refine (awake_any _).mono ?_; rintro e w1 ⟨rfl, hb1⟩; replace hb := hb.trans (hb1.mono hb.size); clear hb1)
    go_ret
    exact ⟨rfl, hb⟩

end Go.Proofs.Ytinjkffkkmbioab
