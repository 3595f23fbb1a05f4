/- The examples that each law of chapter 9 asks first. -/
import Derived.Test.YtdbgcbbfnjoebaaPulseS
import Derived.Test.YtdbgcbbfnjoebaaPulseN
import Derived.Test.YtdbgcbbfnjoebaaNumB
namespace Go.Proofs.Ytdbgcbbfnjoebaa
open Go.RowKit

def awP : List Int := [0, 0, 0, -2, 0, 0, 0, 0, 0, 1, 0, 0, 0, 0, 0, 0]
def pwA : Es := writesA (blocksL 1 awP) initE
def pwL : List Nat := doneL pwA 20

theorem awP_good : goodN 1 awP := ⟨⟨rfl, by decide⟩, rfl⟩
theorem awP_is : goodL awP = true := goodL_iff.2 ⟨1, by decide, by decide, awP_good⟩
theorem byP : ByA (blocksL 1 awP) pwA := byA (blocksL_may 1 awP awP_good)
theorem pwA_tell : tellS pwA ≤ 8 * ((20 : Nat) : Int) := by decide +kernel
theorem pwA_cnt : pwA.cnt ≤ 1000 := by decide +kernel
theorem pw_ends : Ends pwA 20 := (byP.told (by decide) pwA_tell).1
theorem pwL_bytes : Bytes pwL := (byP.told (by decide) pwA_tell).2.1
theorem pw_back : (blocksV pwL 1 (initS pwL)).1 = awP := by
  obtain ⟨_, _, h3, _⟩ := byP.told (by decide) pwA_tell
  obtain ⟨s', e, _⟩ := blocks_back (b := pwL) 1 awP [] (initS pwL) awP_good (by rw [List.append_nil]; exact h3)
  rw [e]
theorem few_aw : fewerL 4 [3, -2, 1] = [2, -1, 1] := by decide +kernel
theorem initP_cnt (bs : List Nat) : (initS bs).cnt ≤ 100 := by rw [init_cnt]; decide

theorem read_int (p gb : Nat) (bs : List Nat) (s : St) (m n : Nat) (z : Int) (hz : z = n) (w : World) (h : Rd p gb bs s w) (hi : Inv s) (hc : s.cnt ≤ 80000000000000) (hn : n = 16 * m) (hm1 : 1 ≤ m) (hm : m ≤ 30) :
    Calls Try.prog 10 #[.pointer (some ⟨p, 0, none⟩), .int .i64 z] w fun e w' => ∃ g, e = .returned (.tuple #[.slice (some ⟨g, 0, none⟩) n n, .int .i64 0]) ∧ NewRow 2 w.heap.size w' (some ⟨g, 0, none⟩) (blocksV bs m s).1 ∧ Rd p gb bs (blocksV bs m s).2 w' ∧ Went (fun k => k = p) w (fun k => k = p) w' := by
  subst hz
  exact read_any p gb bs s m n w h hi hc hn hm1 hm

/-- A writer to whom a row that the call has made is told. -/
theorem write_new (S : Nat → Prop) (p : Nat) (s : Es) (B g n cap m : Nat) (zs : List Int) (w : World) (h : Wd S p s w) (hi : InvE s) (hc : s.cnt ≤ 100000000000) (hl : zs.length = n) (hcap : n ≤ cap) (hg : goodN m zs) (hm1 : 1 ≤ m) (hm : m ≤ 30) (hr : NewRow 2 B w (some ⟨g, 0, none⟩) zs) (hS : ¬ S g) :
    Calls Try.prog 14 #[.pointer (some ⟨p, 0, none⟩), .slice (some ⟨g, 0, none⟩) n cap] w fun e w' => e = .returned (.int .i64 0) ∧ ∃ S', Wd S' p (writesA (blocksL m zs) s) w' ∧ Went S w S' w' ∧ NewRow 2 B w' (some ⟨g, 0, none⟩) zs := by
  have hlen := goodN_len m zs hg
  have hgw := (hr.ge (by omega)).2
  refine (write_any S p s g 0 n cap m zs w h hi hc hl hcap hg hm1 hm (fun i hi => by rw [Nat.zero_add]; exact hr.cellAt hi) hgw hS).mono ?_
  rintro e w' ⟨he, S', h1, h2⟩
  exact ⟨he, S', h1, h2, hr.same fun b hb => by cases hb; exact (went_lt h2 hgw hS).1⟩

theorem fewer_ex (a : Option Addr) (n cap : Nat) (most : Int) (zs : List Int) (w : World) (hz : Zs w a n zs) (hn : n ≤ 480) :
    Calls Try.prog 16 #[.slice a n cap, .int .i64 most] w fun e w' => ∃ g, e = .returned (.slice (some ⟨g, 0, none⟩) n n) ∧ NewRow 2 w.heap.size w' (some ⟨g, 0, none⟩) (fewerL most zs) ∧ Below w.heap.size w w' := by
  refine (fewer_any a n cap most zs w hz hn).mono ?_
  rintro e w' ⟨he, h1, h2⟩
  exact ⟨_, he, h1, h2⟩

theorem fewerL_len (most : Int) (zs : List Int) : (fewerL most zs).length = zs.length := by
  unfold fewerL
  rw [fewsL_len _ _ _ (by rw [List.length_map]; omega), List.length_map]

set_option maxRecDepth 100000 in
set_option maxHeartbeats 3200000 in
theorem awake_any (w : World) :
    Calls Try.prog 9 #[] w fun e w' => e = .returned (.bool true) ∧ Below w.heap.size w w' := by
  obtain ⟨C, hC⟩ : ∃ C, madeCells #[.int .i64 0] 16 = C := ⟨_, rfl⟩
  have hmk : ∀ W : World, (Instr.makeSlice 23 (.int .i64 16) (.int .i64 16)).run Try.prog W = .ok (.slice (some ⟨W.heap.size, 0, none⟩) 16 16) (W.alloc (.cells C 2)) := fun W => by
    rw [← hC]
    exact run_make_row' (P := Try.prog) 23 2 (.int .i64 0) 8 Try.underlying23 info_int64 rfl .i64 .i64 16 (by decide) (by decide) W
  have hC3 : C[3]? = some (.int .i64 0) := by rw [← hC]; simp [madeCells]
  have hC9 : C[9]? = some (.int .i64 0) := by rw [← hC]; simp [madeCells]
  have HB0 : Hid (Below w.heap.size w (w.alloc (.cells ((C.setIfInBounds 3 (.int .i64 (-2))).setIfInBounds 9 (.int .i64 1)) 2))) := (Below.refl _ _).alloc (Nat.le_refl _) _
  have HR0 : Hid (NewRow 2 w.heap.size (w.alloc (.cells ((C.setIfInBounds 3 (.int .i64 (-2))).setIfInBounds 9 (.int .i64 1)) 2)) (some ⟨w.heap.size, 0, none⟩) awP) := by
    have := ((NewRow.made (e := 2) w 16).set 3 (-2)).set 9 1
    rw [World.setCell_alloc_new, World.setCell_alloc_new, hC] at this
    exact this
  have HSZ : Hid ((w.alloc (.cells ((C.setIfInBounds 3 (.int .i64 (-2))).setIfInBounds 9 (.int .i64 1)) 2)).heap.size = w.heap.size + 1) := by show _ = _; simp
  have CI : Hid (initE.cnt ≤ 100000000000) := by show _ ≤ _; decide
  have HT : Hid (tellS pwA ≤ 8 * ((20 : Nat) : Int) ∧ pwA.cnt ≤ 1000 ∧ goodN 1 awP ∧ goodL awP = true) := ⟨pwA_tell, pwA_cnt, awP_good, awP_is⟩
  have HBK : Hid ((blocksV pwL 1 (initS pwL)).1 = awP) := pw_back
  have y1 : Hid True := trivial
  clear hC
  go_enter Try.func9, Try.ntmps9
  go_wp2_with (first
    | (go_at_call 12; go_loud (refine (newE_any _).mono ?_; rintro e w1 ⟨p, S, rfl, he, hS, hb1⟩; have hrow := HR0.out.keep hb1; have hSg : ¬ S w.heap.size := fun h => absurd (hS _ h) (by rw [HSZ.out]; omega); have hS := fun k hk => Nat.le_trans HB0.out.size (hS k hk); have hb := HB0.out.trans (hb1.mono HB0.out.size); clear hb1))
    | (go_at_call 14; go_loud (refine (write_new S p initE w.heap.size w.heap.size 16 16 1 awP _ he initE_inv CI.out rfl (by decide) HT.out.2.2.1 (by decide) (by decide) hrow hSg).mono ?_; rintro e w2 ⟨rfl, S2, he2, hw2, hrow2⟩; replace he2 : Wd S2 p pwA w2 := he2; have hb2 := hb.trans (hw2.below hS hb.size); clear hrow he hw2 hS hSg))
    | (go_at_call 23; go_loud (refine (doneE_int S2 p pwA 20 20 rfl _ he2 pw_ends HT.out.1 (by have := HT.out.2.1; omega)).mono ?_; rintro e w3 ⟨a3, cap3, rfl, ho, hb3⟩; obtain ⟨g3, hag, hg3⟩ := told_arg pwL_bytes (by decide) ho; have hrow3 := hrow2.keep hb3; have hb4 := hb2.trans (hb3.mono hb2.size); clear hb3 ho he2 hrow2))
    | (go_at_call 11; go_loud (refine (new_any g3 a3 20 cap3 pwL _ hag).mono ?_; rintro e w4 ⟨pd, qd, rfl, hd, hqd, hpd, hb5⟩; have hqB := Nat.le_trans hb4.size (Nat.le_trans hqd hpd); have hrow4 := hrow3.keep hb5; have hne : w.heap.size ≠ pd := (by have := (hrow3.ge (by decide)).2; omega); have hb6 := hb4.trans (hb5.mono hb4.size); clear hb5 hag hg3 hrow3))
    | (go_at_call 10; go_loud (refine (read_int pd qd pwL (initS pwL) 1 16 16 rfl _ hd (initS_inv pwL_bytes) (by have := initP_cnt pwL; omega) rfl (by decide) (by decide)).mono ?_; rw [HBK.out]; rintro e w5 ⟨g5, rfl, hr5, hd5, hw5⟩; have hrow5 := hrow4.same (w' := w5) (fun b hb => hw5.block b (by cases hb; exact (hrow4.ge (by decide)).2) (by cases hb; exact hne)); have hb7 := hb6.trans (hw5.below (fun k hk => hk ▸ hqB) hb6.size); clear hd5 hw5 hrow4))
    | (go_at_call 20; clear y1; go_loud (refine (zsame_any _ _ 16 16 16 awP _ (Zs.of_new hr5 rfl) (Zs.of_new hrow5 rfl) (by decide)).mono ?_; rintro e w6 ⟨rfl, k6, rfl⟩; have hb8 := below_drewN hb7 k6; have hrow6 := hrow5.drewN k6))
    | (go_at_call 13; go_loud (refine (pgood_any _ 16 16 awP _ (Zs.of_new hrow6 rfl) (by decide)).mono ?_; rw [HT.out.2.2.2]; rintro e w7 ⟨rfl, rfl⟩))
    | (go_at_call 16; go_loud (refine (fewer_ex _ 3 3 4 [3, -2, 1] _ (zs_lit (w5.drewN k6) [3, -2, 1] rfl rfl rfl) (by decide)).mono ?_; rw [few_aw]; rintro e w8 ⟨g8, rfl, hr8, hb9⟩; have hb10 := (hb8.alloc hb8.size (.cells #[.int .i64 3, .int .i64 (-2), .int .i64 1] 2)).trans (hb9.mono (by rw [World.size_alloc]; exact Nat.le_succ_of_le hb8.size)); clear hb9))
    | (go_at_call 20; go_loud (refine (zsame_any _ _ 3 3 3 [2, -1, 1] _ ((Zs.of_new hr8 rfl).alloc _) (zs_lit w8 [2, -1, 1] rfl rfl rfl) (by decide)).mono ?_; rintro e w9 ⟨rfl, k9, rfl⟩; have hb11 := below_drewN (hb10.alloc hb10.size (.cells #[.int .i64 2, .int .i64 (-1), .int .i64 1] 2)) k9)))
  go_ret
  exact ⟨rfl, hb11⟩

end Go.Proofs.Ytdbgcbbfnjoebaa
