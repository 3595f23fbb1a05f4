/- The law of all that is written and read answers true. -/
import Derived.Test.YtinjkffkkmbioaaRencF
namespace Go.Proofs.Ytinjkffkkmbioaa
open Go.RowKit

/-- One writing, asked for in the middle: what it comes to. -/
theorem ask_yes {w : World} {a : Option Addr} {len : Nat} {vs : Nat → ActV} (HA : AskedAll w a len vs) {k : Nat} (hk : k < len) (hm : mayA (avOf (vs k))) {W : World} (hW : Below w.heap.size w W) {S : Nat → Prop} {p : Nat} {s : Es} (he : Wd S p s W) (hi : InvE s) (hc : s.cnt ≤ 10000) :
    Calls Try.prog 20 #[.pointer (some ⟨p, 0, none⟩), .agg #[.int .i64 ((vs k).z 0), .int .i64 ((vs k).z 1), .int .i64 ((vs k).z 2), .int .i64 ((vs k).z 3), .slice (vs k).a (vs k).len (vs k).cap]] W fun e w' => e = .returned (.tuple #[.int .i64 (aw (vs k)).v, .int .i64 0]) ∧ ∃ S', Wd S' p (writeA (avOf (vs k)) s) w' ∧ Went S W S' w' := by
  obtain ⟨b, off, _, hc2⟩ := HA.cells (by omega)
  exact (written_any _ _ _ _ _ _ _ _ S p s W he hi (by omega) (hc2 W hW k hk).2).mono fun e w' h => h.1 hm

theorem ask_no {w : World} {a : Option Addr} {len : Nat} {vs : Nat → ActV} (HA : AskedAll w a len vs) {k : Nat} (hk : k < len) (hm : ¬ mayA (avOf (vs k))) {W : World} (hW : Below w.heap.size w W) {S : Nat → Prop} {p : Nat} {s : Es} (he : Wd S p s W) (hi : InvE s) (hc : s.cnt ≤ 10000) :
    Calls Try.prog 20 #[.pointer (some ⟨p, 0, none⟩), .agg #[.int .i64 ((vs k).z 0), .int .i64 ((vs k).z 1), .int .i64 ((vs k).z 2), .int .i64 ((vs k).z 3), .slice (vs k).a (vs k).len (vs k).cap]] W fun e w' => ∃ z, e = .returned (.tuple #[.int .i64 z, .int .i64 1]) ∧ ∃ S', Wd S' p s w' ∧ Went S W S' w' := by
  obtain ⟨b, off, _, hc2⟩ := HA.cells (by omega)
  refine (written_any _ _ _ _ _ _ _ _ S p s W he hi (by omega) (hc2 W hW k hk).2).mono fun e w' h => ?_
  obtain ⟨⟨z, h1⟩, h2⟩ := h.2 hm
  exact ⟨z, h1, h2⟩

theorem ask_may {w : World} {a : Option Addr} {len : Nat} {vs : Nat → ActV} (HA : AskedAll w a len vs) {k : Nat} (hk : k < len) {c : Bool} (hm : c = true ↔ mayA (avOf (vs k))) {W : World} (hW : Below w.heap.size w W) :
    Calls Try.prog 21 #[.agg #[.int .i64 ((vs k).z 0), .int .i64 ((vs k).z 1), .int .i64 ((vs k).z 2), .int .i64 ((vs k).z 3), .slice (vs k).a (vs k).len (vs k).cap]] W fun e w' => e = .returned (.bool c) ∧ Below W.heap.size W w' := by
  obtain ⟨b, off, _, hc2⟩ := HA.cells (by omega)
  refine (may_any _ _ _ _ _ _ _ _ W (hc2 W hW k hk).2).mono ?_
  rintro e w' ⟨⟨b, he, hb⟩, hw⟩
  have : b = c := Bool.eq_iff_iff.2 (hb.trans hm.symm)
  exact ⟨by rw [he, this], hw⟩

theorem ask_cells {w : World} {a : Option Addr} {len : Nat} {vs : Nat → ActV} (HA : AskedAll w a len vs) {k : Nat} (hk : k < len) :
    ∃ b off, a = some ⟨b, off, none⟩ ∧ ∀ W, Below w.heap.size w W → W.cell? ⟨b, off + k * 5, none⟩ = some (.int .i64 ((vs k).z 0)) ∧ W.cell? ⟨b, off + k * 5 + 1, none⟩ = some (.int .i64 ((vs k).z 1)) ∧ W.cell? ⟨b, off + k * 5 + 2, none⟩ = some (.int .i64 ((vs k).z 2)) ∧ W.cell? ⟨b, off + k * 5 + 3, none⟩ = some (.int .i64 ((vs k).z 3)) ∧ W.cell? ⟨b, off + k * 5 + 4, none⟩ = some (.slice (vs k).a (vs k).len (vs k).cap) := by
  obtain ⟨b, off, ha, hc⟩ := HA.cells (by omega)
  refine ⟨b, off, ha, fun W hW => ?_⟩
  obtain ⟨g0, g1, g2, g3, g4, _, _, _, _, _⟩ := (hc W hW k hk).1
  exact ⟨g0, g1, g2, g3, g4⟩

theorem tell_int {S : Nat → Prop} {p : Nat} {s : Es} {W : World} {T : Int} (h : Wd S p s W) (hi : InvE s) (hc : s.cnt ≤ 10000) (hT : tellS s = T) :
    Calls Try.prog 11 #[.pointer (some ⟨p, 0, none⟩)] W fun e w' => e = .returned (.int .i64 T) ∧ ∃ k, w' = W.drewN k := by
  subst hT
  exact tellE_any S p s W h hi.wide hi.pre.rhigh (by omega)

/-- What Done's bytes tell, where they are enough. -/
theorem Told.done {B len p k : Nat} {vs : Nat → ActV} {s : Es} {S : Nat → Prop} {v1 v2 : Value} {ys : List ActV} {w : World} (h : Told B len vs p k s S v1 v2 ys w) {n : Nat} (hn : n ≤ 1275) (ht : tellS s ≤ 8 * (n : Int)) :
    Ends s n ∧ Bytes (doneL s n) ∧ AllRead (doneL s n) (tellS s) (ys.map aw) (initS (doneL s n)) ∧ tellZ (afterL (doneL s n) (ys.map aw) (initS (doneL s n))) = tellS s := by
  have hE := spansL_ok h.okW startE_ok
  have ht2 := ht
  have e := tellS_is h.wrote
  rw [e] at ht2 ⊢
  obtain ⟨d1, d2, d3⟩ := done_back h.inv h.wrote hE hn ht2
  obtain ⟨r1, r2, _⟩ := written_read d1 h.okW d2 d3
  exact ⟨(ends_of h.inv h.wrote hE hn ht2).1, d1, r1, r2⟩

theorem AllRead.first {b : List Nat} {T : Int} (hT : 1 ≤ T) {l : List Wr} {s : St} (_h : AllRead b T l s) (hs : tellZ s = 1) : tellZ s ≤ T := by omega

theorem tellS_ge {B len p k : Nat} {vs : Nat → ActV} {s : Es} {S : Nat → Prop} {v1 v2 : Value} {ys : List ActV} {w : World} (h : Told B len vs p k s S v1 v2 ys w) : 1 ≤ tellS s := by
  rw [tellS_is h.wrote]
  have : ∀ (l : List Wr) (e : Sp) (R : Nat), (∀ x ∈ l, okW x) → SpOk e → tellE e R ≤ tellE (spansL l e) (R + rawsN l) := fun l => by
    induction l with
    | nil => intro e R _ _; exact Int.le_refl _
    | cons x l ih =>
      intro e R ho he
      have h1 := spanW_tell (ho x (by simp)) he R
      have h2 := ih (spanW x e) (R + rawN x) (fun y hy => ho y (by simp [hy])) (spanW_ok (ho x (by simp)) he)
      show tellE e R ≤ tellE (spansL l (spanW x e)) (R + (rawN x + rawsN l))
      rw [← Nat.add_assoc]
      omega
  have h0 := this (ys.map aw) startE 0 h.okW startE_ok
  rw [Nat.zero_add] at h0
  have : tellE startE 0 = 1 := by decide +kernel
  omega

theorem home_lt {n g d B : Nat} {bs : List Nat} (hl : bs.length = n) (h0 : bs ≠ []) (h : 0 < n → g < B) : homeOf n g d < B := by
  have hn : 0 < n := by
    rcases Nat.eq_zero_or_pos n with e | e
    · exact absurd (List.eq_nil_of_length_eq_zero (by omega)) h0
    · exact e
  rw [homeOf, if_pos hn]
  exact h hn

set_option maxRecDepth 100000 in
set_option maxHeartbeats 6400000 in
theorem rencBack.run (a0 : Option Addr) (len cap : Nat) (vs : Nat → ActV) (n : Nat) (w : World) (HA0 : AskedAll w a0 len vs) (k0 : len ≤ 100) (hn : n ≤ 1275) :
    Calls Try.prog 4 #[.slice a0 len cap, .int .i64 (n : Nat)] w fun e w' => e = .returned (.bool true) ∧ Below w.heap.size w w' := by
  have hb := Below.refl w.heap.size w
  have HA : Hid (AskedAll w a0 len vs) := HA0
  have k0I : (len : Int) ≤ 100 := by omega
  have hnI : (n : Int) ≤ 1275 := by omega
  have HS : Hid (∀ p S W, Wd S p initE W → (∀ k, S k → w.heap.size ≤ k) → ∃ s, Told w.heap.size len vs p 0 s S (.slice none 0 0) (.slice none 0 0) [] W) := fun p S W h hS =>
    ⟨initE, h, initE_inv, initE_wrote, by decide, hS, Kept.nil _ _ _, (fun y hy => by cases hy), Nat.le_refl _⟩
  clear HA0
  go_enter Try.func4, Try.ntmps4
  go_wp2_with (first
    | (go_at_call 9; refine (awake_any _).mono ?_; rintro e w1 ⟨rfl, hb1⟩; replace hb := hb.trans (hb1.mono hb.size); clear hb1)
    | (go_at_call 10; go_loud (refine (newE_any _).mono ?_; rintro e w1 ⟨p, S, rfl, he0, hS, hb1⟩; obtain ⟨s, hT0⟩ := HS.out _ _ _ he0 (fun k hk => Nat.le_trans hb.size (hS k hk)); clear he0 hS; replace hb := hb.trans (hb1.mono hb.size); clear hb1)))
  have HE0 : Hid (Told w.heap.size len vs p 0 s S (.slice none 0 0) (.slice none 0 0) [] w1) := hT0
  clear hT0 HS
  go_loopw [6, 7, 8] (fun what done i W => Below w.heap.size w W ∧ ∃ (k : Nat) (s : Es) (S : Nat → Prop) (ys : List ActV) (m : Nat) (b1 : Option Addr) (cap1 : Nat) (b2 : Option Addr) (cap2 : Nat), k ≤ len ∧ i = .int .i64 k ∧ what = .slice b1 m cap1 ∧ done = .slice b2 m cap2 ∧ Hid (ys.length = m ∧ Told w.heap.size len vs p k s S (.slice b1 m cap1) (.slice b2 m cap2) ys W)) (fun _ _ i _ => len - (intOf i).toNat)
  case atStart => exact ⟨hb, 0, s, S, [], 0, none, 0, none, 0, Nat.zero_le _, rfl, rfl, rfl, rfl, HE0.out⟩
  case round =>
    clear hb HE0
    obtain ⟨hb, k, s, S, ys, m, b1, cap1, b2, cap2, hk, rfl, rfl, rfl, hr⟩ := hrel
    by_cases hlt : k < len
    · obtain ⟨b, off, rfl, hcells⟩ := ask_cells HA.out hlt
      have HC : Hid (∀ W, Below w.heap.size w W → W.cell? ⟨b, off + k * 5, none⟩ = some (.int .i64 ((vs k).z 0)) ∧ W.cell? ⟨b, off + k * 5 + 1, none⟩ = some (.int .i64 ((vs k).z 1)) ∧ W.cell? ⟨b, off + k * 5 + 2, none⟩ = some (.int .i64 ((vs k).z 2)) ∧ W.cell? ⟨b, off + k * 5 + 3, none⟩ = some (.int .i64 ((vs k).z 3)) ∧ W.cell? ⟨b, off + k * 5 + 4, none⟩ = some (.slice (vs k).a (vs k).len (vs k).cap)) := hcells
      clear hcells
      have he := hr.out.2.wd
      have hS := hr.out.2.above
      have hkp := hr.out.2.kept
      obtain ⟨zs, hzs⟩ : ∃ zs, (ys.map fun y => (aw y).v) = zs := ⟨_, rfl⟩
      rw [hzs] at hkp
      have HZ : Hid ((ys.map fun y => (aw y).v) = zs) := hzs
      have HL : Hid (zs.length = m ∧ ys.length = m) := ⟨by rw [← hzs, List.length_map]; exact hr.out.1, hr.out.1⟩
      have hm100 : m ≤ 100 := by have := hr.out.2.few; have := hr.out.1; omega
      have y1 : Hid True := trivial
      by_cases hm : mayA (avOf (vs k))
      · have HW : Hid (∀ S p W, Below w.heap.size w W → Wd S p s W → Calls Try.prog 20 #[.pointer (some ⟨p, 0, none⟩), .agg #[.int .i64 ((vs k).z 0), .int .i64 ((vs k).z 1), .int .i64 ((vs k).z 2), .int .i64 ((vs k).z 3), .slice (vs k).a (vs k).len (vs k).cap]] W fun e w' => e = .returned (.tuple #[.int .i64 (aw (vs k)).v, .int .i64 0]) ∧ ∃ S', Wd S' p (writeA (avOf (vs k)) s) w' ∧ Went S W S' w') := fun S p W hW he => ask_yes HA.out hlt hm hW he hr.out.2.inv (by have := hr.out.2.cnt; omega)
        have HM : Hid (∀ W, Below w.heap.size w W → Calls Try.prog 21 #[.agg #[.int .i64 ((vs k).z 0), .int .i64 ((vs k).z 1), .int .i64 ((vs k).z 2), .int .i64 ((vs k).z 3), .slice (vs k).a (vs k).len (vs k).cap]] W fun e w' => e = .returned (.bool true) ∧ Below W.heap.size W w') := fun W hW => ask_may HA.out hlt (c := true) ⟨fun _ => hm, fun _ => rfl⟩ hW
        obtain ⟨z, hz⟩ : ∃ z, (aw (vs k)).v = z := ⟨_, rfl⟩
        obtain ⟨T1, hT1⟩ : ∃ T1, tellS s = T1 := ⟨_, rfl⟩
        obtain ⟨T2, hT2⟩ : ∃ T2, tellS (writeA (avOf (vs k)) s) = T2 := ⟨_, rfl⟩
        have hT12 : T1 ≤ T2 := by rw [← hT1, ← hT2]; exact (hr.out.2.wok.step hm).2.1
        have HT1 : Hid (∀ S p W, Wd S p s W → Calls Try.prog 11 #[.pointer (some ⟨p, 0, none⟩)] W fun e w' => e = .returned (.int .i64 T1) ∧ ∃ k, w' = W.drewN k) := fun S p W h => tell_int h hr.out.2.inv (by have := hr.out.2.cnt; omega) hT1
        have HT2 : Hid (∀ S p W, Wd S p (writeA (avOf (vs k)) s) W → Calls Try.prog 11 #[.pointer (some ⟨p, 0, none⟩)] W fun e w' => e = .returned (.int .i64 T2) ∧ ∃ k, w' = W.drewN k) := fun S p W h => tell_int h (writeA_inv hm hr.out.2.inv) (by have := hr.out.2.cnt; have := writeA_cnt _ hm s; omega) hT2
        rw [hz] at HW
        have HZZ : Hid ((aw (vs k)).v = z) := hz
        have HMO : Hid (∀ S' v1' v2' w', Wd S' p (writeA (avOf (vs k)) s) w' → (∀ k, S' k → w.heap.size ≤ k) → Kept w.heap.size S' v1' v2' (zs ++ [z]) (ys ++ [vs k]) w' → (ys ++ [vs k]).length = m + 1 ∧ Told w.heap.size len vs p (k + 1) (writeA (avOf (vs k)) s) S' v1' v2' (ys ++ [vs k]) w') := fun S' v1' v2' w' h1 h2 h3 => ⟨by rw [List.length_append, HL.out.2]; rfl, hr.out.2.more hlt hm h1 h2 (by rw [List.map_append, HZ.out, ← HZZ.out] at *; exact h3)⟩
        obtain ⟨Y, hY⟩ : ∃ Y, vs k = Y := ⟨_, rfl⟩
        rw [hY] at HW HM HC HMO HT2
        have HO : Hid (∃ o0 o1 o2 o3, Y.z 0 = o0 ∧ Y.z 1 = o1 ∧ Y.z 2 = o2 ∧ Y.z 3 = o3) := ⟨_, _, _, _, rfl, rfl, rfl, rfl⟩
        obtain ⟨o0, o1, o2, o3, E0, E1, E2, E3⟩ := HO.out
        rw [E0, E1, E2, E3] at HW HM HC
        have HE : Hid (Y.z 0 = o0 ∧ Y.z 1 = o1 ∧ Y.z 2 = o2 ∧ Y.z 3 = o3) := ⟨E0, E1, E2, E3⟩
        obtain ⟨c0, c1, c2, c3, c4⟩ := HC.out wr hb
        clear hr hzs hm hz hT1 hT2 hY E0 E1 E2 E3 HO HA
        go_wp2_with (first
          | (go_at_call 11; clear y1; go_loud (refine (HT1.out _ _ _ he).mono ?_; rintro e w2 ⟨rfl, kk, rfl⟩; replace he := he.drewN kk; replace hkp := hkp.drewN kk; replace hb := Below.drewN hb kk))
          | (go_at_call 20; go_loud (refine (HW.out _ _ _ hb he).mono ?_; rintro e w3 ⟨rfl, S2, he2, hw2⟩; have hS2 := hw2.above hS hb.size; replace hkp := hkp.wrote hw2; replace hb := hb.trans (hw2.below hS hb.size); obtain ⟨d0, d1, d2, d3, d4⟩ := HC.out _ hb; clear hw2 he hS))
          | (go_at_call 21; go_loud (refine (HM.out _ hb).mono ?_; rintro e w4 ⟨rfl, hb4⟩; replace he2 := he2.keep hb4; replace hkp := hkp.keep hb4; replace hb := hb.trans (hb4.mono hb.size); clear hb4))
          | (go_at_call 11; go_loud (refine (HT2.out _ _ _ he2).mono ?_; rintro e w5 ⟨rfl, k5, rfl⟩; replace he2 := he2.drewN k5; replace hkp := hkp.drewN k5; replace hb := Below.drewN hb k5))
          | (at_builtin; refine wpList_push_int w.heap.size m _ zs z HL.out.1 hkp.own1 (by omega) hb.size rfl _ _ rfl rfl rfl ?_; intro g6 cap6 w6 ho6 hg6 hat6; have he3 := he2.grown hg6 (fun k hk => (hkp.a1 k hk).1); have hkp2 := hkp.push1 he2.lt (by rw [HL.out.1]) ho6 hg6 hat6; replace hb := hb.grown hg6 hb.size (fun k hk => (hkp.own1.lt k hk).1); obtain ⟨f0, f1, f2, f3, f4⟩ := HC.out _ hb; clear ho6 hg6 hat6 he2 hkp)
          | (at_builtin; refine wpList_push_act w.heap.size m _ ys Y HL.out.2 hkp2.own2 (by omega) hb.size rfl _ _ rfl rfl rfl o0 o1 o2 o3 HE.out.1 HE.out.2.1 HE.out.2.2.1 HE.out.2.2.2 ?_; intro g7 cap7 w7 ho7 hg7 hat7; have he4 := he3.grown hg7 (fun k hk => hkp2.a2 k hk); have hkp3 := hkp2.push2 he3.lt (by rw [HL.out.2]) ho7 hg7 hat7; replace hb := hb.grown hg7 hb.size (fun k hk => (hkp2.own2.lt k hk).1); clear ho7 hg7 hat7 he3 hkp2))
        go_roundw
        case rel => exact ⟨hb, k + 1, _, S2, ys ++ [Y], m + 1, _, cap6, _, cap7, by omega, by go_num, rfl, rfl, HMO.out _ _ _ _ he4 hS2 hkp3⟩
        case measure => simp [intOf]; omega
      · have HW : Hid (∀ S p W, Below w.heap.size w W → Wd S p s W → Calls Try.prog 20 #[.pointer (some ⟨p, 0, none⟩), .agg #[.int .i64 ((vs k).z 0), .int .i64 ((vs k).z 1), .int .i64 ((vs k).z 2), .int .i64 ((vs k).z 3), .slice (vs k).a (vs k).len (vs k).cap]] W fun e w' => ∃ z, e = .returned (.tuple #[.int .i64 z, .int .i64 1]) ∧ ∃ S', Wd S' p s w' ∧ Went S W S' w') := fun S p W hW he => ask_no HA.out hlt hm hW he hr.out.2.inv (by have := hr.out.2.cnt; omega)
        have HM : Hid (∀ W, Below w.heap.size w W → Calls Try.prog 21 #[.agg #[.int .i64 ((vs k).z 0), .int .i64 ((vs k).z 1), .int .i64 ((vs k).z 2), .int .i64 ((vs k).z 3), .slice (vs k).a (vs k).len (vs k).cap]] W fun e w' => e = .returned (.bool false) ∧ Below W.heap.size W w') := fun W hW => ask_may HA.out hlt (c := false) ⟨fun h => (by cases h), fun h => absurd h hm⟩ hW
        obtain ⟨T1, hT1⟩ : ∃ T1, tellS s = T1 := ⟨_, rfl⟩
        have HT1 : Hid (∀ S p W, Wd S p s W → Calls Try.prog 11 #[.pointer (some ⟨p, 0, none⟩)] W fun e w' => e = .returned (.int .i64 T1) ∧ ∃ k, w' = W.drewN k) := fun S p W h => tell_int h hr.out.2.inv (by have := hr.out.2.cnt; omega) hT1
        have HMO : Hid (∀ S' w', Wd S' p s w' → (∀ k, S' k → w.heap.size ≤ k) → Kept w.heap.size S' (.slice b1 m cap1) (.slice b2 m cap2) zs ys w' → ys.length = m ∧ Told w.heap.size len vs p (k + 1) s S' (.slice b1 m cap1) (.slice b2 m cap2) ys w') := fun S' w' h1 h2 h3 => ⟨HL.out.2, hr.out.2.same h1 h2 (by rw [HZ.out]; exact h3)⟩
        obtain ⟨Y, hY⟩ : ∃ Y, vs k = Y := ⟨_, rfl⟩
        rw [hY] at HW HM HC
        obtain ⟨o0, E0⟩ : ∃ o0, Y.z 0 = o0 := ⟨_, rfl⟩
        obtain ⟨o1, E1⟩ : ∃ o1, Y.z 1 = o1 := ⟨_, rfl⟩
        obtain ⟨o2, E2⟩ : ∃ o2, Y.z 2 = o2 := ⟨_, rfl⟩
        obtain ⟨o3, E3⟩ : ∃ o3, Y.z 3 = o3 := ⟨_, rfl⟩
        rw [E0, E1, E2, E3] at HW HM HC
        obtain ⟨c0, c1, c2, c3, c4⟩ := HC.out wr hb
        clear hr hzs hm hT1 hY E0 E1 E2 E3 HA
        go_wp2_with (first
          | (go_at_call 11; clear y1; go_loud (refine (HT1.out _ _ _ he).mono ?_; rintro e w2 ⟨rfl, kk, rfl⟩; replace he := he.drewN kk; replace hkp := hkp.drewN kk; replace hb := Below.drewN hb kk))
          | (go_at_call 20; go_loud (refine (HW.out _ _ _ hb he).mono ?_; rintro e w3 ⟨z, rfl, S2, he2, hw2⟩; have hS2 := hw2.above hS hb.size; replace hkp := hkp.wrote hw2; replace hb := hb.trans (hw2.below hS hb.size); obtain ⟨d0, d1, d2, d3, d4⟩ := HC.out _ hb; clear hw2 he hS))
          | (go_at_call 21; go_loud (refine (HM.out _ hb).mono ?_; rintro e w4 ⟨rfl, hb4⟩; replace he2 := he2.keep hb4; replace hkp := hkp.keep hb4; replace hb := hb.trans (hb4.mono hb.size); clear hb4))
          | (go_at_call 11; go_loud (refine (HT1.out _ _ _ he2).mono ?_; rintro e w5 ⟨rfl, k5, rfl⟩; replace he2 := he2.drewN k5; replace hkp := hkp.drewN k5; replace hb := Below.drewN hb k5)))
        go_roundw
        case rel => exact ⟨hb, k + 1, s, S2, ys, m, _, cap1, _, cap2, by omega, by go_num, rfl, rfl, HMO.out _ _ he2 hS2 hkp⟩
        case measure => simp [intOf]; omega
    · obtain rfl : k = len := by omega
      have he := hr.out.2.wd
      have hkp := hr.out.2.kept
      have hL := hr.out.1
      have HI : Hid (InvE s ∧ s.cnt ≤ 10000) := ⟨hr.out.2.inv, by have := hr.out.2.cnt; omega⟩
      have hS := hr.out.2.above
      have hm100 : m ≤ 100 := by have := hr.out.2.few; omega
      by_cases ht : tellS s ≤ 8 * (n : Int)
      · obtain ⟨q1, q2, q3, q4⟩ := hr.out.2.done hn ht
        have q0 := tellS_ge hr.out.2
        have HD : Hid (∀ S p W, Wd S p s W → Calls Try.prog 13 #[.pointer (some ⟨p, 0, none⟩), .int .i64 (n : Nat)] W fun e w' => ∃ a cap, e = .returned (.tuple #[.slice a n cap, .int .i64 0]) ∧ w'.ownsRow W.heap.size 5 1 (.slice a n cap) n (bvals (doneL s n)) ∧ Below W.heap.size W w') := fun S p W h => doneE_any S p s n W h q1 ht (by have := HI.out.2; omega)
        have hlen := doneL_len s n
        obtain ⟨bs, hbs⟩ : ∃ bs, doneL s n = bs := ⟨_, rfl⟩
        rw [hbs] at HD q2 q3 q4 hlen
        obtain ⟨T, hT⟩ : ∃ T, tellS s = T := ⟨_, rfl⟩
        rw [hT] at ht q3 q4 q0
        have HT1 : Hid (∀ S p W, Wd S p s W → Calls Try.prog 11 #[.pointer (some ⟨p, 0, none⟩)] W fun e w' => e = .returned (.int .i64 T) ∧ ∃ k, w' = W.drewN k) := fun S p W h => tell_int h HI.out.1 HI.out.2 hT
        have HBY : Hid (Bytes bs) := q2
        obtain ⟨F, hF⟩ : ∃ F, afterL bs (ys.map aw) (initS bs) = F := ⟨_, rfl⟩
        rw [hF] at q4
        have HF : Hid (tellZ F = T) := q4
        have HTB : Hid (T ≤ 8 * (bs.length : Int) ∧ T ≤ 100000) := ⟨by rw [hlen]; exact ht, by omega⟩
        have HST : Hid (∀ d g W, Rr d g bs (initS bs) W → Wd S p s W → Kept w.heap.size S (.slice b1 m cap1) (.slice b2 m cap2) (ys.map fun y => (aw y).v) ys W → (∀ k, S k → k < d) → (∀ k, (Value.slice b1 m cap1).ownBlock = some k → k < d) → (∀ k, (Value.slice b2 m cap2).ownBlock = some k → k < d) → (bs ≠ [] → g < W.heap.size) →
            ∃ st, Heard w.heap.size S p s (.slice b1 m cap1) (.slice b2 m cap2) ys d g bs F T 0 st W) := fun d g W h1 h2 h3 h4 h5 h6 h7 =>
          ⟨initS bs, h1, initS_inv q2, (initS_is bs).2.2.2.2, q3, hF, by rw [initS_tell]; exact q0, h3, h2, fun h => Nat.lt_irrefl _ (h4 _ h), fun h => Nat.lt_irrefl _ (h5 _ h), fun h => Nat.lt_irrefl _ (h6 _ h), h7⟩
        have HMEM : Hid (∀ y ∈ ys, ∀ W, Below w.heap.size w W → Asked W (y.z 0) (y.z 1) (y.z 2) (y.z 3) y.a y.len y.cap (y.q.take y.len) ∧ ∀ b off, y.a = some ⟨b, off, none⟩ → 0 < y.len → b < w.heap.size) := fun y hy W hW => by
          obtain ⟨_, i, hi, rfl⟩ := hr.out.2.mem y hy
          obtain ⟨_, _, _, hc2⟩ := HA.out.cells (by omega)
          refine ⟨(hc2 W hW i hi).2, fun b off ha h0 => ?_⟩
          obtain ⟨b', off', e, hlt2, _⟩ := (hc2 w (Below.refl _ _) i hi).2.row.2 h0
          rw [ha] at e
          cases e
          exact hlt2
        have HLN : Hid (ys.length = m ∧ bs.length = n) := ⟨hL, hlen⟩
        have y1 : Hid True := trivial
        clear hr hbs hT hF q1 q2 q3 q4 q0 hL hlen HA
        go_wp2_with (first
          | (go_at_call 13; go_loud (refine (HD.out _ _ _ he).mono ?_; rintro e w4 ⟨a4, cap4, rfl, ho4, hb4⟩; obtain ⟨g4, hag, hg4⟩ := told_arg HBY.out (by omega) ho4; replace he := he.keep hb4; replace hkp := hkp.keep hb4; replace hb := hb.trans (hb4.mono hb.size); clear hb4 ho4))
          | (go_at_call 11; go_loud (refine (HT1.out _ _ _ he).mono ?_; rintro e w5 ⟨rfl, k5, rfl⟩; replace he := he.drewN k5; replace hkp := hkp.drewN k5; replace hb := Below.drewN hb k5; replace hag := hag.keep (Below.drewN (Below.refl _ _) k5)))
          | (go_at_call 22; go_loud (refine (rnew_any g4 a4 n cap4 bs _ hag).mono ?_; rintro e w6 ⟨d, rfl, hrr, hdd, hb6⟩; have x1 : ∀ k, S k → k < d := (fun k hk => Nat.lt_of_lt_of_le (he.lt k hk) hdd); have x2 : ∀ k, (Value.slice b1 m cap1).ownBlock = some k → k < d := (fun k hk => Nat.lt_of_lt_of_le (hkp.lt1 hk) hdd); have x3 : ∀ k, (Value.slice b2 m cap2).ownBlock = some k → k < d := (fun k hk => Nat.lt_of_lt_of_le (hkp.lt2 hk) hdd); have x4 : bs ≠ [] → homeOf n g4 d < w6.heap.size := (fun h0 => home_lt HLN.out.2 h0 (fun h => Nat.lt_of_lt_of_le (hg4 h).2 hb6.size)); replace he := he.keep hb6; replace hkp := hkp.keep hb6; obtain ⟨st, hh⟩ := HST.out d _ _ hrr he hkp x1 x2 x3 x4; have hdB := Nat.le_trans hb.size hdd; replace hb := hb.trans (hb6.mono hb.size); clear hb6 hrr hdd x1 x2 x3 x4 he hkp hag hg4)))
        obtain ⟨g, hg⟩ : ∃ g, homeOf n g4 d = g := ⟨_, rfl⟩
        rw [hg] at hh
        have HH0 : Hid (Heard w.heap.size S p s (.slice b1 m cap1) (.slice b2 m cap2) ys d g bs F T 0 st w6) := hh
        have HDB : Hid (w.heap.size ≤ d) := hdB
        clear hg hh HST hdB
        go_loopw [15] (fun i W => Below w.heap.size w W ∧ ∃ (j : Nat) (st : St), j ≤ m ∧ i = .int .i64 j ∧ Hid (Heard w.heap.size S p s (.slice b1 m cap1) (.slice b2 m cap2) ys d g bs F T j st W)) (fun i _ => m - (intOf i).toNat)
        case atStart => exact ⟨hb, 0, st, Nat.zero_le _, rfl, HH0.out⟩
        case round =>
          clear hb HH0
          obtain ⟨hb, j, st, hj, rfl, hr⟩ := hrel
          by_cases hlt2 : j < m
          · obtain ⟨y, hy⟩ : ∃ y, ys[j]? = some y := ⟨ys[j]'(by rw [HLN.out.1]; exact hlt2), List.getElem?_eq_getElem _⟩
            obtain ⟨g1, c1, g2, c2, e1, e2, r0, r1, r2, r3, r4, r5⟩ := hr.out.kept.read (by rw [List.length_map]) (j := j) (z := (aw y).v) (by rw [List.getElem?_map, hy]; rfl) hy
            obtain ⟨rfl, -, rfl⟩ := Value.slice.inj e1
            obtain ⟨rfl, -, rfl⟩ := Value.slice.inj e2
            have hh := hr.out
            obtain ⟨st2, hst2⟩ : ∃ st2, (readW bs (aw y) st).2 = st2 := ⟨_, rfl⟩
            have HRD : Hid (∀ W, Below w.heap.size w W → Heard w.heap.size S p s (.slice (some ⟨g1, 0, none⟩) m cap1) (.slice (some ⟨g2, 0, none⟩) m cap2) ys d g bs F T j st W →
                Calls Try.prog 23 #[.pointer (some ⟨d, 0, none⟩), .agg #[.int .i64 (y.z 0), .int .i64 (y.z 1), .int .i64 (y.z 2), .int .i64 (y.z 3), .slice y.a y.len y.cap], .int .i64 (aw y).v] W fun e w' =>
                  e = .returned (.bool true) ∧ Heard w.heap.size S p s (.slice (some ⟨g1, 0, none⟩) m cap1) (.slice (some ⟨g2, 0, none⟩) m cap2) ys d g bs F T (j + 1) st2 w' ∧ Below w.heap.size W w') := fun W hW h => by
              obtain ⟨m1, m2⟩ := HMEM.out y (List.mem_of_getElem? hy) W hW
              rw [← hst2]
              exact h.reads HTB.out.2 hy m1 (fun b off ha h0 => by have := m2 b off ha h0; have := HDB.out; omega) HDB.out hW.size
            have HBD : Hid (∀ W, Heard w.heap.size S p s (.slice (some ⟨g1, 0, none⟩) m cap1) (.slice (some ⟨g2, 0, none⟩) m cap2) ys d g bs F T (j + 1) st2 W → Calls Try.prog 24 #[.pointer (some ⟨d, 0, none⟩)] W fun e w' => e = .returned (.bool false) ∧ ∃ k, w' = W.drewN k) := fun W h => h.never HTB.out.1 HTB.out.2
            obtain ⟨o0, E0⟩ : ∃ o0, y.z 0 = o0 := ⟨_, rfl⟩
            obtain ⟨o1, E1⟩ : ∃ o1, y.z 1 = o1 := ⟨_, rfl⟩
            obtain ⟨o2, E2⟩ : ∃ o2, y.z 2 = o2 := ⟨_, rfl⟩
            obtain ⟨o3, E3⟩ : ∃ o3, y.z 3 = o3 := ⟨_, rfl⟩
            obtain ⟨z, E4⟩ : ∃ z, (aw y).v = z := ⟨_, rfl⟩
            rw [E0, E1, E2, E3, E4] at HRD
            rw [E0] at r1
            rw [E1] at r2
            rw [E2] at r3
            rw [E3] at r4
            rw [E4] at r0
            have HRC : Hid (∀ i st' W, Heard w.heap.size S p s (.slice (some ⟨g1, 0, none⟩) m cap1) (.slice (some ⟨g2, 0, none⟩) m cap2) ys d g bs F T i st' W → W.cell? ⟨g1, j, none⟩ = some (.int .i64 z) ∧ W.cell? ⟨g2, j * 5, none⟩ = some (.int .i64 o0) ∧ W.cell? ⟨g2, j * 5 + 1, none⟩ = some (.int .i64 o1) ∧ W.cell? ⟨g2, j * 5 + 2, none⟩ = some (.int .i64 o2) ∧ W.cell? ⟨g2, j * 5 + 3, none⟩ = some (.int .i64 o3) ∧ W.cell? ⟨g2, j * 5 + 4, none⟩ = some (.slice y.a y.len y.cap)) := fun i st' W h => by
              obtain ⟨g3, c3, g4, c4, e3, e4, p0, p1, p2, p3, p4, p5⟩ := h.kept.read (by rw [List.length_map]) (j := j) (z := (aw y).v) (by rw [List.getElem?_map, hy]; rfl) hy
              have e5 : g1 = g3 := by have := (Value.slice.inj e3).1; simpa using this
              have e6 : g2 = g4 := by have := (Value.slice.inj e4).1; simpa using this
              subst e5; subst e6
              rw [E4] at p0; rw [E0] at p1; rw [E1] at p2; rw [E2] at p3; rw [E3] at p4
              exact ⟨p0, p1, p2, p3, p4, p5⟩
            clear hr hy hst2 E0 E1 E2 E3 E4 e1 e2 r0 r1 r2 r3 r4 r5
            replace hb := hb.drew
            replace hh := hh.drew
            obtain ⟨r0, r1, r2, r3, r4, r5⟩ := HRC.out _ _ _ hh
            go_wp2
            go_region_held3 (fun W => W.cell? ⟨g1, j, none⟩ = some (.int .i64 z) ∧ W.cell? ⟨g2, j * 5, none⟩ = some (.int .i64 o0) ∧ W.cell? ⟨g2, j * 5 + 1, none⟩ = some (.int .i64 o1) ∧ W.cell? ⟨g2, j * 5 + 2, none⟩ = some (.int .i64 o2) ∧ W.cell? ⟨g2, j * 5 + 3, none⟩ = some (.int .i64 o3) ∧ W.cell? ⟨g2, j * 5 + 4, none⟩ = some (.slice y.a y.len y.cap)) (first | (exact ⟨by assumption, by assumption, by assumption, by assumption, by assumption, by assumption⟩) | go_keep) (first
              | (go_at_call 23; go_loud (refine (HRD.out _ hb hh).mono ?_; rintro e w7 ⟨rfl, hh2, hb7⟩; replace hb := hb.trans hb7; obtain ⟨r0, r1, r2, r3, r4, r5⟩ := HRC.out _ _ _ hh2; clear hb7 hh))
              | (go_at_call 24; go_loud (refine (HBD.out _ hh2).mono ?_; rintro e w8 ⟨rfl, k8, rfl⟩; replace hh2 := hh2.drewN k8; replace hb := Below.drewN hb k8; obtain ⟨r0, r1, r2, r3, r4, r5⟩ := HRC.out _ _ _ hh2)))
            all_goals
              go_wp2
              go_roundw
              case rel => exact ⟨hb, j + 1, st2, by omega, by go_num, hh2⟩
              case measure => simp [intOf]; omega
          · obtain rfl : j = m := by omega
            have hh := hr.out
            have HTD : Hid (∀ W, Heard w.heap.size S p s (.slice b1 j cap1) (.slice b2 j cap2) ys d g bs F T j st W → Calls Try.prog 25 #[.pointer (some ⟨d, 0, none⟩)] W fun e w' => e = .returned (.int .i64 T) ∧ ∃ k, w' = W.drewN k) := fun W h => h.last (by rw [HLN.out.1]; exact Nat.le_refl _) HF.out HTB.out.2
            clear hr
            go_wp2_with (first
              | (go_at_call 25; go_loud (refine (HTD.out _ hh).mono ?_; rintro e w7 ⟨rfl, k7, rfl⟩; replace hh := hh.drewN k7; replace hb := Below.drewN hb k7))
              | (go_at_call 11; go_loud (refine (HT1.out _ _ _ hh.wd).mono ?_; rintro e w8 ⟨rfl, k8, rfl⟩; replace hb := Below.drewN hb k8; rw [World.drewN_drewN] at hb)))
            go_ret
            exact ⟨rfl, hb⟩
      · obtain ⟨T, hT⟩ : ∃ T, tellS s = T := ⟨_, rfl⟩
        have HT1 : Hid (∀ S p W, Wd S p s W → Calls Try.prog 11 #[.pointer (some ⟨p, 0, none⟩)] W fun e w' => e = .returned (.int .i64 T) ∧ ∃ k, w' = W.drewN k) := fun S p W h => tell_int h HI.out.1 HI.out.2 hT
        have HD : Hid (∀ S p W, Wd S p s W → Calls Try.prog 13 #[.pointer (some ⟨p, 0, none⟩), .int .i64 (n : Nat)] W fun e w' => e = .returned (.tuple #[.slice none 0 0, .int .i64 2]) ∧ ∃ k, w' = W.drewN k) := fun S p W h => doneE_few S p s n W h HI.out.1 hn (by omega) (by have := HI.out.2; omega)
        have htI : 8 * (n : Int) < T := by omega
        clear hr hT ht hkp hL hS HA
        go_wp2_with (first
          | (go_at_call 13; go_loud (refine (HD.out _ _ _ he).mono ?_; rintro e w4 ⟨rfl, k4, rfl⟩; replace he := he.drewN k4; replace hb := Below.drewN hb k4))
          | (go_at_call 11; go_loud (refine (HT1.out _ _ _ he).mono ?_; rintro e w5 ⟨rfl, k5, rfl⟩; replace hb := Below.drewN hb k5; rw [World.drewN_drewN] at hb)))
        go_ret
        exact ⟨rfl, hb⟩

theorem rencBack.any (a0 : Option Addr) (len cap : Nat) (vs : Nat → ActV) (n : Int) (w : World) (HA0 : AskedAll w a0 len vs) (hlen : len ≤ 9223372036854775807) (hn : -9223372036854775808 ≤ n ∧ n ≤ 9223372036854775807) :
    Calls Try.prog 4 #[.slice a0 len cap, .int .i64 n] w fun e w' => e = .returned (.bool true) ∧ Below w.heap.size w w' := by
  have hb := Below.refl w.heap.size w
  by_cases k0 : len ≤ 100
  · by_cases k1 : 0 ≤ n ∧ n ≤ 1275
    · obtain ⟨m, rfl⟩ := Int.eq_ofNat_of_zero_le k1.1
      exact rencBack.run a0 len cap vs m w HA0 k0 (by omega)
    · clear HA0
      have k0I : (len : Int) ≤ 100 := by omega
      by_cases k2 : n < 0
      · go_enter Try.func4, Try.ntmps4
        go_wp2_with (go_at_call 9; refine (awake_any _).mono ?_; rintro e w1 ⟨rfl, hb1⟩; replace hb := hb.trans (hb1.mono hb.size); clear hb1)
        go_ret
        exact ⟨rfl, hb⟩
      · have k3 : 1275 < n := by omega
        clear k1
        go_enter Try.func4, Try.ntmps4
        go_wp2_with (go_at_call 9; refine (awake_any _).mono ?_; rintro e w1 ⟨rfl, hb1⟩; replace hb := hb.trans (hb1.mono hb.size); clear hb1)
        go_ret
        exact ⟨rfl, hb⟩
  · have k0I : (100 : Int) < (len : Int) := by omega
    clear HA0
    go_enter Try.func4, Try.ntmps4
    go_wp2_with (go_at_call 9; refine (awake_any _).mono ?_; rintro e w1 ⟨rfl, hb1⟩; replace hb := hb.trans (hb1.mono hb.size); clear hb1)
    go_ret
    exact ⟨rfl, hb⟩

theorem rencBack.walk (a0 : Option Addr) (len cap : Nat) (vs : Nat → ActV) (n : Int) (w : World) (h0 : ActsAt 4 w a0 len cap vs) (hs : ∀ i, i < len → (vs i).cap * 8 ≤ 140737488351232) (h1 : (Lit.int .i64 n).wf = true) :
    Calls Try.prog 4 #[.slice a0 len cap, .int .i64 n] w fun e w' => e = .returned (.bool true) ∧ Below w.heap.size w w' :=
  rencBack.any a0 len cap vs n w (askedAll h0 hs) (acts_at4 h0).1 (bounds_i64 h1)

end Go.Proofs.Ytinjkffkkmbioaa
