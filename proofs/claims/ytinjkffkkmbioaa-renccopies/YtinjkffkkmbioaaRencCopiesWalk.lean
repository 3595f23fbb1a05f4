/- The law of copies answers true. -/
import Derived.Test.YtinjkffkkmbioaaRencC
import Derived.Laws.IdiomStrings
namespace Go.Proofs.Ytinjkffkkmbioaa
open Go.RowKit

theorem Next.same {x : AV} {s s2 s3 : Es} (h : Next x s s2) (k : Next x s s3) : s2 = s3 := by
  by_cases hm : mayA x
  · rw [h.may hm, k.may hm]
  · rw [h.not hm, k.not hm]

/-- What bytes make a string of. -/
def strOf (bs : List Nat) : ByteArray := ⟨(bs.map fun b => UInt8.ofNat b).toArray⟩

theorem str_of_owned {B : Nat} {w : World} {a : Option Addr} {n cap : Nat} {bs : List Nat} (hb : Bytes bs) (h : w.ownsRow B 5 1 (.slice a n cap) n (bvals bs)) :
    (convert 29 9 (.slice a n cap)).run Try.prog w = .ok (.string (strOf bs)) w := by
  obtain ⟨hl0, h⟩ := h
  have hl : bs.length = n := by simpa [bvals] using hl0
  rcases h with ⟨hv, hn⟩ | ⟨g, cap', cur, hv, _, hh, hnc, _, hcs, ht⟩
  · cases hv
    have : bs = [] := List.eq_nil_of_length_eq_zero (by omega)
    subst this
    rw [run_convert_bytes_string w _ _ 5 none 0 0 (by kernel_rfl) (by kernel_rfl) (by kernel_rfl)]
    rfl
  · cases hv
    have hc : ∀ i, i < n → w.cell? ⟨g, i, none⟩ = some (.int .u8 (byteAt bs i)) := fun i hi => by
      have h1 : (cur.toList.take (n * 1))[i]? = some (.int .u8 (byteAt bs i)) := by
        rw [ht, bvals, List.getElem?_map, byteAt, List.getElem?_eq_getElem (by omega)]; rfl
      rw [Nat.mul_one, List.getElem?_take_of_lt hi] at h1
      have h2 : cur[i]? = some (.int .u8 (byteAt bs i)) := by simpa using h1
      simp [World.cell?, hh, h2]
    have hlen : (bs.map fun b => UInt8.ofNat b).length = n := by rw [List.length_map]; exact hl
    have h := run_convert_bytes_back (P := Try.prog) w 29 9 5 ⟨g, 0, none⟩ cap (bs.map fun b => UInt8.ofNat b) (by kernel_rfl) (by kernel_rfl) (by kernel_rfl) (fun j hj => by
      rw [hlen] at hj
      rw [Addr.add_lit, Nat.zero_add, hc j hj]
      have hbj := hb j
      have e : byteAt bs j = bs[j]'(by omega) := by unfold byteAt; rw [List.getElem?_eq_getElem (by omega)]; rfl
      rw [List.getElem_map]
      rw [e] at hbj ⊢
      congr 2
      simp only [UInt8.toNat_ofNat']
      omega)
    rw [hlen] at h
    exact h

/-- Done of any number of bytes: it comes to an end, and changes nothing. -/
theorem done_either (S : Nat → Prop) (p : Nat) (s : Es) (n : Nat) (w : World) (h : Wd S p s w) (hs : WOk s) (hn : n ≤ 1275) (hc : s.cnt ≤ 1000000) :
    Calls Try.prog 13 #[.pointer (some ⟨p, 0, none⟩), .int .i64 (n : Nat)] w fun e w' => ∃ a l cap err, e = .returned (.tuple #[.slice a l cap, .int .i64 err]) ∧ Below w.heap.size w w' := by
  by_cases ht : tellS s ≤ 8 * (n : Int)
  · obtain ⟨hi, E, R, V, hE, hw⟩ := hs
    have ht2 := ht
    rw [tellS_is hw] at ht2
    refine (doneE_any S p s n w h (ends_of hi hw hE hn ht2).1 ht (by omega)).mono ?_
    rintro e w' ⟨a, cap, h1, _, h3⟩
    exact ⟨a, n, cap, 0, h1, h3⟩
  · refine (doneE_few S p s n w h hs.1 hn (by omega) (by omega)).mono ?_
    rintro e w' ⟨h1, k, rfl⟩
    exact ⟨none, 0, 0, 2, h1, Below.drewN (Below.refl _ _) k⟩

theorem done_full (S : Nat → Prop) (p : Nat) (s : Es) (n : Nat) (w : World) (h : Wd S p s w) (hs : WOk s) (hn : n ≤ 1275) (hc : (s.cnt : Int) ≤ 8 * (n : Int)) :
    Calls Try.prog 13 #[.pointer (some ⟨p, 0, none⟩), .int .i64 (n : Nat)] w fun e w' => ∃ a cap, e = .returned (.tuple #[.slice a n cap, .int .i64 0]) ∧ w'.ownsRow w.heap.size 5 1 (.slice a n cap) n (bvals (doneL s n)) ∧ Below w.heap.size w w' := by
  have ht : tellS s ≤ 8 * (n : Int) := by have := hs.tell; omega
  obtain ⟨hi, E, R, V, hE, hw⟩ := hs
  have ht2 := ht
  rw [tellS_is hw] at ht2
  exact doneE_any S p s n w h (ends_of hi hw hE hn ht2).1 ht (by omega)

theorem done_bytes {s : Es} (hs : WOk s) {n : Nat} (hn : n ≤ 1275) (hc : (s.cnt : Int) ≤ 8 * (n : Int)) : Bytes (doneL s n) := by
  have ht : tellS s ≤ 8 * (n : Int) := by have := hs.tell; omega
  obtain ⟨hi, E, R, V, hE, hw⟩ := hs
  rw [tellS_is hw] at ht
  exact doneL_bytes (ends_of hi hw hE hn ht).1

/-- One asked-for writing, as the laws hand it on: whichever the writer. -/
theorem ask_any {w : World} {a : Option Addr} {len : Nat} {vs : Nat → ActV} (HA : AskedAll w a len vs) {k : Nat} (hk : k < len) :
    ∃ b off, a = some ⟨b, off, none⟩ ∧ (∀ W, Below w.heap.size w W → ActC W b (off + k * 5) (vs k)) ∧ ∀ (S : Nat → Prop) (p : Nat) (s : Es) (W : World), Below w.heap.size w W → Wd S p s W → WOk s → s.cnt ≤ 10000 →
      Calls Try.prog 20 #[.pointer (some ⟨p, 0, none⟩), .agg #[.int .i64 ((vs k).z 0), .int .i64 ((vs k).z 1), .int .i64 ((vs k).z 2), .int .i64 ((vs k).z 3), .slice (vs k).a (vs k).len (vs k).cap]] W fun e w' => ∃ (z err : Int) (s2 : Es) (S' : Nat → Prop), e = .returned (.tuple #[.int .i64 z, .int .i64 err]) ∧ Wd S' p s2 w' ∧ Went S W S' w' ∧ Next (avOf (vs k)) s s2 := by
  obtain ⟨b, off, ha, hc⟩ := HA.cells (by omega)
  refine ⟨b, off, ha, fun W hW => (hc W hW k hk).1, fun S p s W hW he hok hcn => ?_⟩
  refine (written_any _ _ _ _ _ _ _ _ S p s W he hok.1 (by omega) (hc W hW k hk).2).mono fun e w' h => ?_
  obtain ⟨z, err, s2, S', h1, h2, h3, h4, _⟩ := h.next hok
  exact ⟨z, err, s2, S', h1, h2, h3, h4⟩

set_option maxRecDepth 100000 in
set_option maxHeartbeats 3200000 in
theorem rencCopies.run (a0 : Option Addr) (len cap : Nat) (vs : Nat → ActV) (a1 : Option Addr) (len1 cap1 : Nat) (us : Nat → ActV) (w : World) (h0 : ActsAt 4 w a0 len cap vs) (hs : ∀ i, i < len → (vs i).cap * 8 ≤ 140737488351232)
    (h1 : ActsAt 4 w a1 len1 cap1 us) (hs1 : ∀ i, i < len1 → (us i).cap * 8 ≤ 140737488351232) (k0 : len ≤ 50) (k1 : len1 ≤ 50) :
    Calls Try.prog 7 #[.slice a0 len cap, .slice a1 len1 cap1] w fun e w' => e = .returned (.bool true) ∧ Below w.heap.size w w' := by
  have hb := Below.refl w.heap.size w
  have HA : Hid (AskedAll w a0 len vs) := askedAll h0 hs
  have HB : Hid (AskedAll w a1 len1 us) := askedAll h1 hs1
  have k0I : (len : Int) ≤ 50 := by omega
  have k1I : (len1 : Int) ≤ 50 := by omega
  have n1 : Hid True := trivial
  have HS : Hid (∀ p S W, Wd S p initE W → ∃ s, s = initE ∧ Wd S p s W) := fun p S W h => ⟨initE, rfl, h⟩
  have HI : Hid (∀ s, s = initE → WOk s ∧ s.cnt ≤ 33) := fun s hs => by rw [hs]; exact ⟨initE_ok, by decide⟩
  clear h0 hs h1 hs1
  go_enter Try.func7, Try.ntmps7
  go_wp2_with (first
    | (go_at_call 9; refine (awake_any _).mono ?_; rintro e w1 ⟨rfl, hb1⟩; replace hb := hb.trans (hb1.mono hb.size); clear hb1)
    | (go_at_call 10; clear n1; go_loud (refine (newE_any _).mono ?_; rintro e w1 ⟨p, S, rfl, he0, hS, hb1⟩; obtain ⟨s, hsi, he⟩ := HS.out _ _ _ he0; clear he0; replace hS := fun k hk => Nat.le_trans hb.size (hS k hk); replace hb := hb.trans (hb1.mono hb.size); clear hb1))
    | (go_at_call 10; go_loud (refine (newE_any _).mono ?_; rintro e w2 ⟨q, T, rfl, hf0, hT, hb1⟩; obtain ⟨s', hsi', hf⟩ := HS.out _ _ _ hf0; obtain rfl : s = s' := hsi.trans hsi'.symm; clear hf0 hsi'; have hd : ∀ k, S k → ¬ T k := (fun k hk ht => (by have := hT k ht; have := he.lt k hk; omega)); replace hT := fun k hk => Nat.le_trans hb.size (hT k hk); replace he := he.keep hb1; replace hb := hb.trans (hb1.mono hb.size); clear hb1)))
  have HE0 : Hid (WOk s ∧ s.cnt ≤ 33 + 48 * 0 ∧ Wd S p s w2 ∧ Wd T q s w2 ∧ (∀ k, S k → ¬ T k) ∧ (∀ k, S k → w.heap.size ≤ k) ∧ ∀ k, T k → w.heap.size ≤ k) := ⟨(HI.out s hsi).1, (HI.out s hsi).2, he, hf, hd, hS, hT⟩
  clear hsi he hf hd hS hT HS HI
  go_loopw [7] (fun i W => Below w.heap.size w W ∧ ∃ (k : Nat) (s : Es) (S T : Nat → Prop), k ≤ len ∧ i = .int .i64 k ∧ Hid (WOk s ∧ s.cnt ≤ 33 + 48 * k ∧ Wd S p s W ∧ Wd T q s W ∧ (∀ k, S k → ¬ T k) ∧ (∀ k, S k → w.heap.size ≤ k) ∧ ∀ k, T k → w.heap.size ≤ k)) (fun i _ => len - (intOf i).toNat)
  case atStart => exact ⟨hb, 0, s, S, T, Nat.zero_le _, rfl, HE0.out⟩
  case round =>
    clear hb HE0
    obtain ⟨hb, k, s, S, T, hk, rfl, hr⟩ := hrel
    by_cases hlt : k < len
    · obtain ⟨b, off, rfl, hcells, hcall⟩ := ask_any HA.out hlt
      obtain ⟨c0, c1, c2, c3, c4, _, _, _, _, _⟩ := hcells wr hb
      have HC : Hid (∀ W, Below w.heap.size w W → W.cell? ⟨b, off + k * 5, none⟩ = some (.int .i64 ((vs k).z 0)) ∧ W.cell? ⟨b, off + k * 5 + 1, none⟩ = some (.int .i64 ((vs k).z 1)) ∧ W.cell? ⟨b, off + k * 5 + 2, none⟩ = some (.int .i64 ((vs k).z 2)) ∧ W.cell? ⟨b, off + k * 5 + 3, none⟩ = some (.int .i64 ((vs k).z 3)) ∧ W.cell? ⟨b, off + k * 5 + 4, none⟩ = some (.slice (vs k).a (vs k).len (vs k).cap)) := fun W hW => by
        obtain ⟨g0, g1, g2, g3, g4, _, _, _, _, _⟩ := hcells W hW
        exact ⟨g0, g1, g2, g3, g4⟩
      have HW : Hid (∀ (S : Nat → Prop) (p : Nat) (W : World), Below w.heap.size w W → Wd S p s W → Calls Try.prog 20 #[.pointer (some ⟨p, 0, none⟩), .agg #[.int .i64 ((vs k).z 0), .int .i64 ((vs k).z 1), .int .i64 ((vs k).z 2), .int .i64 ((vs k).z 3), .slice (vs k).a (vs k).len (vs k).cap]] W fun e w' => ∃ (z err : Int) (s2 : Es) (S' : Nat → Prop), e = .returned (.tuple #[.int .i64 z, .int .i64 err]) ∧ Wd S' p s2 w' ∧ Went S W S' w' ∧ Next (avOf (vs k)) s s2) := fun S p W hW he => hcall S p s W hW he hr.out.1 (by have := hr.out.2.1; omega)
      have y1 : Hid True := trivial
      generalize (vs k).z 0 = o0 at *
      generalize (vs k).z 1 = o1 at *
      generalize (vs k).z 2 = o2 at *
      generalize (vs k).z 3 = o3 at *
      obtain ⟨_, hcs, he, hf, hd, hS, hT⟩ := hr.out
      clear hcells hcall hr
      go_wp2_with (first
        | (go_at_call 20; clear y1; go_loud (refine (HW.out _ _ _ hb he).mono ?_; rintro e w2 ⟨z, err, s2, S2, rfl, he2, hw2, hn2⟩; have hS2 := hw2.above hS hb.size; have hd2 := hw2.apart (fun k hk hs => hd k hs hk) hf.lt; replace hf := hf.went hw2 (fun k hk hs => hd k hs hk); replace hb := hb.trans (hw2.below hS hb.size); obtain ⟨g0, g1, g2, g3, g4⟩ := HC.out _ hb; clear hw2 he hS hd))
        | (go_at_call 20; go_loud (refine (HW.out _ _ _ hb hf).mono ?_; rintro e w3 ⟨z3, err3, s3, T2, rfl, hf2, hw3, hn3⟩; obtain rfl := hn2.same hn3; have hT2 := hw3.above hT hb.size; have hd3 := hw3.apart (fun k hk ht => hd2 k ht hk) he2.lt; replace he2 := he2.went hw3 (fun k hk ht => hd2 k ht hk); replace hb := hb.trans (hw3.below hT hb.size); clear hw3 hf hT hd2 hn3)))
      go_roundw
      case rel => exact ⟨hb, k + 1, s2, S2, T2, by omega, by go_num, hn2.ok, (by have := hn2.cnt; omega), he2, hf2, hd3, hS2, hT2⟩
      case measure => simp [intOf]; omega
    · obtain rfl : k = len := by omega
      obtain ⟨hok, hcs, he, hf, hd, hS, hT⟩ := hr.out
      have HL : Hid (s.front.length + s.back.length ≤ 1275) := hok.1.pre.len
      have HK : Hid (WOk s ∧ s.cnt ≤ 2433) := ⟨hok, by omega⟩
      clear hr hok hcs HA
      go_wp2_with (go_at_call 14; go_loud (refine (copyE_any S p s _ he HL.out).mono ?_; rintro e w2 ⟨c, U, rfl, hc, hU, hb1⟩; have hdS : ∀ k, U k → ¬ S k := (fun k hk hs => (by have := hU k hk; have := he.lt k hs; omega)); have hdT : ∀ k, U k → ¬ T k := (fun k hk hs => (by have := hU k hk; have := hf.lt k hs; omega)); replace hU := fun k hk => Nat.le_trans hb.size (hU k hk); replace he := he.keep hb1; replace hf := hf.keep hb1; replace hb := hb.trans (hb1.mono hb.size); clear hb1))
      have HE1 : Hid (WOk s ∧ s.cnt ≤ 2433 + 48 * 0 ∧ Wd U c s w2 ∧ Wd S p s w2 ∧ Wd T q s w2 ∧ (∀ k, U k → ¬ S k) ∧ (∀ k, U k → ¬ T k) ∧ ∀ k, U k → w.heap.size ≤ k) := ⟨HK.out.1, HK.out.2, hc, he, hf, hdS, hdT, hU⟩
      clear hc he hf hdS hdT hU hd
      go_loopw [9] (fun i W => Below w.heap.size w W ∧ ∃ (k : Nat) (u : Es) (U : Nat → Prop), k ≤ len1 ∧ i = .int .i64 k ∧ Hid (WOk u ∧ u.cnt ≤ 2433 + 48 * k ∧ Wd U c u W ∧ Wd S p s W ∧ Wd T q s W ∧ (∀ k, U k → ¬ S k) ∧ (∀ k, U k → ¬ T k) ∧ ∀ k, U k → w.heap.size ≤ k)) (fun i _ => len1 - (intOf i).toNat)
      case atStart => exact ⟨hb, 0, s, U, Nat.zero_le _, rfl, HE1.out⟩
      case round =>
        clear hb HE1
        obtain ⟨hb, j, u, U, hj, rfl, hr⟩ := hrel
        by_cases hlt1 : j < len1
        · obtain ⟨b, off, rfl, hcells, hcall⟩ := ask_any HB.out hlt1
          obtain ⟨c0, c1, c2, c3, c4, _, _, _, _, _⟩ := hcells wr hb
          have HW : Hid (∀ (S : Nat → Prop) (p : Nat) (W : World), Below w.heap.size w W → Wd S p u W → Calls Try.prog 20 #[.pointer (some ⟨p, 0, none⟩), .agg #[.int .i64 ((us j).z 0), .int .i64 ((us j).z 1), .int .i64 ((us j).z 2), .int .i64 ((us j).z 3), .slice (us j).a (us j).len (us j).cap]] W fun e w' => ∃ (z err : Int) (s2 : Es) (S' : Nat → Prop), e = .returned (.tuple #[.int .i64 z, .int .i64 err]) ∧ Wd S' p s2 w' ∧ Went S W S' w' ∧ Next (avOf (us j)) u s2) := fun S p W hW he => hcall S p u W hW he hr.out.1 (by have := hr.out.2.1; omega)
          generalize (us j).z 0 = o0 at *
          generalize (us j).z 1 = o1 at *
          generalize (us j).z 2 = o2 at *
          generalize (us j).z 3 = o3 at *
          obtain ⟨_, hcs, hc, he, hf, hdS, hdT, hU⟩ := hr.out
          clear hcells hcall hr
          go_wp2_with (go_at_call 20; go_loud (refine (HW.out _ _ _ hb hc).mono ?_; rintro e w3 ⟨z, err, u2, U2, rfl, hc2, hw2, hn2⟩; have hU2 := hw2.above hU hb.size; have hx := hw2.apart (fun k hk hs => hdS k hs hk) he.lt; have hy := hw2.apart (fun k hk hs => hdT k hs hk) hf.lt; replace he := he.went hw2 (fun k hk hs => hdS k hs hk); replace hf := hf.went hw2 (fun k hk hs => hdT k hs hk); replace hb := hb.trans (hw2.below hU hb.size); clear hw2 hc))
          go_roundw
          case rel => exact ⟨hb, j + 1, u2, U2, by omega, by go_num, hn2.ok, (by have := hn2.cnt; omega), hc2, he, hf, (fun k hk hs => hx k hs hk), (fun k hk hs => hy k hs hk), hU2⟩
          case measure => simp [intOf]; omega
        · obtain rfl : j = len1 := by omega
          obtain ⟨_, _, _, he, hf, _, _, _⟩ := hr.out
          have HD : Hid (∀ S p W, Wd S p s W → Calls Try.prog 13 #[.pointer (some ⟨p, 0, none⟩), .int .i64 10] W fun e w' => ∃ a l cap err, e = .returned (.tuple #[.slice a l cap, .int .i64 err]) ∧ Below W.heap.size W w') := fun S p W h => done_either S p s 10 W h HK.out.1 (by decide) (by have := HK.out.2; omega)
          have HD2 : Hid (∀ S p W, Wd S p s W → Calls Try.prog 13 #[.pointer (some ⟨p, 0, none⟩), .int .i64 500] W fun e w' => ∃ a cap, e = .returned (.tuple #[.slice a 500 cap, .int .i64 0]) ∧ w'.ownsRow W.heap.size 5 1 (.slice a 500 cap) 500 (bvals (doneL s 500)) ∧ Below W.heap.size W w') := fun S p W h => done_full S p s 500 W h HK.out.1 (by decide) (by have := HK.out.2; omega)
          have HBY : Hid (Bytes (doneL s 500)) := done_bytes HK.out.1 (by decide) (by have := HK.out.2; omega)
          obtain ⟨L, hL⟩ : ∃ L, doneL s 500 = L := ⟨_, rfl⟩
          rw [hL] at HBY HD2
          have HT : Hid (∀ S p W, Wd S p s W → Calls Try.prog 11 #[.pointer (some ⟨p, 0, none⟩)] W fun e w' => e = .returned (.int .i64 (tellS s)) ∧ ∃ k, w' = W.drewN k) := fun S p W h => tellE_any S p s W h HK.out.1.1.wide HK.out.1.1.pre.rhigh (by have := HK.out.2; omega)
          generalize tellS s = TT at HT
          have y1 : Hid True := trivial
          have y2 : Hid True := trivial
          have y3 : Hid True := trivial
          clear hr hL HL HB
          go_wp2_with (first
            | (go_at_call 13; clear y1; go_loud (refine (HD.out _ _ _ he).mono ?_; rintro e w3 ⟨a3, l3, cap3, err3, rfl, hb3⟩; replace he := he.keep hb3; replace hf := hf.keep hb3; replace hb := hb.trans (hb3.mono hb.size); clear hb3))
            | (go_at_call 13; clear y2; go_loud (refine (HD2.out _ _ _ he).mono ?_; rintro e w4 ⟨a4, cap4, rfl, ho4, hb4⟩; replace he := he.keep hb4; replace hf := hf.keep hb4; replace hb := hb.trans (hb4.mono hb.size); clear hb4))
            | (go_at_call 13; go_loud (refine (HD2.out _ _ _ hf).mono ?_; rintro e w5 ⟨a5, cap5, rfl, ho5, hb5⟩; replace he := he.keep hb5; replace hf := hf.keep hb5; have hx4 := str_of_owned HBY.out (ownsRow_of_block ho4 (fun k hk => hb5.block k (ownBlock_lt ho4 hk))); have hx5 := str_of_owned HBY.out ho5; replace hb := hb.trans (hb5.mono hb.size); clear hb5 ho4 ho5))
            | (go_at_call 11; clear y3; go_loud (refine (HT.out _ _ _ he).mono ?_; rintro e w6 ⟨rfl, k6, rfl⟩; replace he := he.drewN k6; replace hf := hf.drewN k6; replace hb := Below.drewN hb k6))
            | (go_at_call 11; go_loud (refine (HT.out _ _ _ hf).mono ?_; rintro e w7 ⟨rfl, k7, rfl⟩; replace hb := Below.drewN hb k7; rw [World.drewN_drewN] at hb)))
          go_ret
          exact ⟨rfl, hb⟩

theorem rencCopies.walk (a0 : Option Addr) (len cap : Nat) (vs : Nat → ActV) (a1 : Option Addr) (len1 cap1 : Nat) (us : Nat → ActV) (w : World) (h0 : ActsAt 4 w a0 len cap vs) (hs : ∀ i, i < len → (vs i).cap * 8 ≤ 140737488351232)
    (h1 : ActsAt 4 w a1 len1 cap1 us) (hs1 : ∀ i, i < len1 → (us i).cap * 8 ≤ 140737488351232) :
    Calls Try.prog 7 #[.slice a0 len cap, .slice a1 len1 cap1] w fun e w' => e = .returned (.bool true) ∧ Below w.heap.size w w' := by
  have hlen := (acts_at4 h0).1
  have hlen1 := (acts_at4 h1).1
  by_cases k0 : len ≤ 50
  · by_cases k1 : len1 ≤ 50
    · exact rencCopies.run a0 len cap vs a1 len1 cap1 us w h0 hs h1 hs1 k0 k1
    · have k0I : (len : Int) ≤ 50 := by omega
      have k1I : (50 : Int) < (len1 : Int) := by omega
      have hb := Below.refl w.heap.size w
      clear h0 hs h1 hs1
      go_enter Try.func7, Try.ntmps7
      go_wp2_with (go_at_call 9; refine (awake_any _).mono ?_; rintro e w1 ⟨rfl, hb1⟩; replace hb := hb.trans (hb1.mono hb.size); clear hb1)
      go_ret
      exact ⟨rfl, hb⟩
  · have k0I : (50 : Int) < (len : Int) := by omega
    have hb := Below.refl w.heap.size w
    clear h0 hs h1 hs1
    go_enter Try.func7, Try.ntmps7
    go_wp2_with (go_at_call 9; refine (awake_any _).mono ?_; rintro e w1 ⟨rfl, hb1⟩; replace hb := hb.trans (hb1.mono hb.size); clear hb1)
    go_ret
    exact ⟨rfl, hb⟩

end Go.Proofs.Ytinjkffkkmbioaa
