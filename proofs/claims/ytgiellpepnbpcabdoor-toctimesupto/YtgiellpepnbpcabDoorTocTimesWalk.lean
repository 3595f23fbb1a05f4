/- The law of what parses (times, counts, copies) answers true. -/
import Derived.Test.YtgiellpepnbpcabDoorTocV
namespace Go.Proofs.YtgiellpepnbpcabDoor
open Go.RowKit

/-- Block g holds three numbers, the last of them z. -/
def Last3 (w : World) (g : Nat) (z : Int) : Prop := ∃ x y t, w.heap[g]? = some (.cells #[.int .i64 x, .int .i64 y, .int .i64 z] t (0, 0))

/-- A slice of n bytes that may be written: in a block from B on, before P, not L. -/
def Room (W : World) (B P L : Nat) (a : Option Addr) (n : Nat) : Prop :=
  0 < n → ∃ g cur t, a = some ⟨g, 0, none⟩ ∧ B ≤ g ∧ g < P ∧ g ≠ L ∧ W.heap[g]? = some (.cells cur t (0, 0)) ∧ n ≤ cur.size

theorem Room.of_heap {W W' : World} {B P L : Nat} {a : Option Addr} {n : Nat} (h : Room W B P L a n) (hk : ∀ k, B ≤ k → k < P → W'.heap[k]? = W.heap[k]?) : Room W' B P L a n := fun h0 => by
  obtain ⟨g, cur, t, e, h1, h2, h3, h4, h5⟩ := h h0
  exact ⟨g, cur, t, e, h1, h2, h3, (hk g h1 h2).trans h4, h5⟩

theorem Room.set {W : World} {B P L : Nat} {a : Option Addr} {n : Nat} (h : Room W B P L a n) (b i : Nat) (u : Value) : Room (W.setCell ⟨b, i, none⟩ u) B P L a n := fun h0 => by
  obtain ⟨g, cur, t, e, h1, h2, h3, h4, h5⟩ := h h0
  by_cases hb : g = b
  · subst hb
    exact ⟨g, cur.setIfInBounds i u, t, e, h1, h2, h3, four_set h4 i u, by simpa using h5⟩
  · exact ⟨g, cur, t, e, h1, h2, h3, (Below.heap_setCell _ _ _ _ hb).trans h4, h5⟩

/-- What the law holds while it writes into the frames. -/
structure Tm (wP W : World) (P C L n c : Nat) (k ch pad : Nat) (z : Int) (fs : List (List Nat)) : Prop where
  below : Below wP.heap.size wP W
  box : Four W P 26 (.int .i64 (k : Nat)) (.int .i64 (ch : Nat)) (.slice (some ⟨L, 0, none⟩) n c) (.int .i64 (pad : Nat))
  cfg : Last3 W C z
  list : ∀ i, i < n → ∃ ua uc, W.cell? ⟨L, i, none⟩ = some (.slice ua (fs[i]?.getD []).length uc) ∧ Room W wP.heap.size P L ua (fs[i]?.getD []).length

theorem Tm.step {wP W : World} {P C L n c k ch pad : Nat} {z : Int} {fs : List (List Nat)} (h : Tm wP W P C L n c k ch pad z fs) {g : Nat} (i : Nat) (u : Value) (h1 : wP.heap.size ≤ g) (h2 : g < P) (h3 : g ≠ L) (h4 : P < C) : Tm wP (W.setCell ⟨g, i, none⟩ u) P C L n c k ch pad z fs := by
  refine ⟨h.below.setCell h1 u, h.box.other i (by omega) u, ?_, fun j hj => ?_⟩
  · obtain ⟨x, y, t, hc⟩ := h.cfg
    exact ⟨x, y, t, (Below.heap_setCell _ _ _ _ (by show C ≠ g; omega)).trans hc⟩
  · obtain ⟨ua, uc, g1, g2⟩ := h.list j hj
    exact ⟨ua, uc, (World.cell?_of_block (w := W) (Below.heap_setCell _ _ _ _ (by show L ≠ g; omega))).trans g1, g2.set g i u⟩

theorem tm_start {wP w3 W : World} {a : Option Addr} {c k ch pad n : Nat} {z : Int} {fs : List (List Nat)} {C : Nat} (hn : fs.length = n) (hf : Frs wP.heap.size w3 (.slice a fs.length c) fs) (h0 : 0 < fs.length) (hb3 : Below wP.heap.size wP w3) (hW : Below w3.heap.size w3 W) (hbox : Four W w3.heap.size 26 (.int .i64 (k : Nat)) (.int .i64 (ch : Nat)) (.slice a n c) (.int .i64 (pad : Nat))) (hcfg : Last3 W C z) :
    ∃ L, a = some ⟨L, 0, none⟩ ∧ Tm wP W w3.heap.size C L n c k ch pad z fs := by
  subst hn
  obtain ⟨⟨us, h1, h2⟩, h3, h4⟩ := hf
  have hlen : us.length = fs.length := by simpa using h1.1
  rcases h1.2 with ⟨hv, hz⟩ | ⟨L, c1, cur, hv, hB, hh, hnc, _, hcs, ht⟩
  · omega
  · cases hv
    refine ⟨L, rfl, hb3.trans (hW.mono hb3.size), hbox, hcfg, fun i hi => ?_⟩
    obtain ⟨u, g1, g2, g3⟩ := h2 i (fs[i]'hi) (List.getElem?_eq_getElem hi)
    have e : fs[i]?.getD [] = fs[i]'hi := by rw [List.getElem?_eq_getElem hi]; rfl
    rw [e]
    obtain ⟨ua, uc, rfl⟩ := ownsRow_form g2
    have hc : w3.cell? ⟨L, i, none⟩ = some (.slice ua (fs[i]'hi).length uc) := by
      have h5 : (cur.toList.take (fs.length * 1))[i]? = some (.slice ua (fs[i]'hi).length uc) := by rw [ht]; exact g1
      rw [Nat.mul_one, List.getElem?_take_of_lt hi] at h5
      have h6 : cur[i]? = some (.slice ua (fs[i]'hi).length uc) := by simpa using h5
      simp [World.cell?, hh, h6]
    refine ⟨ua, uc, (hW.cell (p := ⟨L, i, none⟩) (Array.getElem?_eq_some_iff.1 hh).1).trans hc, fun hpos => ?_⟩
    rcases g2.2 with ⟨hu, hz⟩ | ⟨g, c2, cur2, hu, hB2, hh2, hn2, _, hcs2, _⟩
    · omega
    · cases hu
      have hlt := (Array.getElem?_eq_some_iff.1 hh2).1
      exact ⟨g, cur2, _, rfl, hB2, hlt, fun e => g3 L rfl (by rw [e]; rfl), (hW.block g hlt).trans hh2, by omega⟩

theorem flat_step {fs : List (List Nat)} {i : Nat} (hi : i < fs.length) : (flatN (fs.take (i + 1))).length = (flatN (fs.take i)).length + (fs[i]?.getD []).length := by
  rw [flatN_take (f := fs[i]?.getD []) (by rw [List.getElem?_eq_getElem hi]; rfl), List.length_append]

theorem times_long (a : Option Addr) (len cap : Nat) (w : World) (hl : 20000 < len) (hs : len ≤ 9223372036854775807) (hc : CfgAt w) :
    Calls Tryd.prog 3 #[.slice a len cap] w fun e w' => e = .returned (.bool true) ∧ Below w.heap.size w w' := by
  have b1 : ((20000 : Int) < len) = True := eq_true (by omega)
  have HC : Hid (CfgAt w) := hc
  clear hl hc
  go_enter Tryd.func3, Tryd.ntmps3
  go_wp2_with (go_at_call 4; refine (awake_any _ HC.out).mono ?_; rintro e w1 ⟨rfl, hB⟩)
  go_ret
  exact ⟨rfl, hB⟩

theorem times_none (a : Option Addr) (len cap : Nat) (bs : List Nat) (w : World) (hbs : Bs w a len cap bs) (hl : len ≤ 20000) (hp : parseN bs = none) (hc : CfgAt w) :
    Calls Tryd.prog 3 #[.slice a len cap] w fun e w' => e = .returned (.bool true) ∧ Below w.heap.size w w' := by
  have b1 : ((20000 : Int) < len) = False := eq_false (by omega)
  have HC : Hid (CfgAt w) := hc
  have HBS : Hid (Bs w a len cap bs) := hbs
  have HP : Hid (parseN bs = none) := hp
  clear hc hbs hp
  go_enter Tryd.func3, Tryd.ntmps3
  go_wp2_with (first
    | (go_at_call 4; refine (awake_any _ HC.out).mono ?_; rintro e w1 ⟨rfl, hB⟩)
    | (at_builtin; go_loud (refine wpList_copy_bytes (w := w1) a len cap bs (HBS.out.keep hB) rfl _ _ rfl _ rfl rfl rfl ?_; intro a2 c2 w2 ho2 hb2; have HB2 : Hid (Bs w2 a2 len c2 bs) := (Ob.bs ho2 HBS.out.row.small HBS.out.size).1; replace hB := hB.trans (hb2.mono hB.size); clear ho2 hb2))
    | (go_at_call 5; go_loud (refine (parse_any _ _ _ bs _ HB2.out (HC.out.keep hB)).mono ?_; rintro e w3 ⟨he, hb3⟩; obtain rfl := he.elim_no HP.out; replace hB := hB.trans (hb3.mono hB.size); clear he hb3)))
  go_ret
  exact ⟨rfl, hB.alloc hB.size _⟩

set_option maxHeartbeats 4000000 in
theorem times_some (a : Option Addr) (len cap : Nat) (bs : List Nat) (w : World) (hbs : Bs w a len cap bs) (hl : len ≤ 20000) (k ch pad : Nat) (fs : List (List Nat)) (hp : parseN bs = some ⟨k, ch, fs, pad⟩) (hc : CfgAt w) :
    Calls Tryd.prog 3 #[.slice a len cap] w fun e w' => e = .returned (.bool true) ∧ Below w.heap.size w w' := by
  have b1 : ((20000 : Int) < len) = False := eq_false (by omega)
  obtain ⟨_, hk, hn1, htime, hshort, hflat, _⟩ := parse_is hbs.row.small hp
  simp only at hk hn1 htime hshort hflat
  have HSH : Hid (∀ f ∈ fs, f.length ≤ 1275) := hshort
  have HC : Hid (CfgAt w) := hc
  have HBS : Hid (Bs w a len cap bs) := hbs
  have HP : Hid (parseN bs = some ⟨k, ch, fs, pad⟩) := hp
  obtain ⟨n, HN⟩ : ∃ n, Hid (fs.length = n) := ⟨_, rfl⟩
  have hms := msN_in k
  have hn12 : n ≤ 12 := by
    have h1 := HN.out
    have h2 : fs.length * 10 ≤ fs.length * msN k := Nat.mul_le_mul_left _ hms.1
    omega
  have hn0 : 1 ≤ n := by have h1 := HN.out; omega
  obtain ⟨z, HZ⟩ : ∃ z, Hid (msN k = z) := ⟨_, rfl⟩
  have HT : Hid ((n : Int) * (z : Int) ≤ 120) := by
    show _ ≤ _
    rw [← HN.out, ← HZ.out]
    exact_mod_cast htime
  have hz20 : z ≤ 20 := by have := HZ.out; omega
  have HFL : Hid ((flatN fs).length < len) := by have := hbs.len; show _ < _; omega
  have HK : Hid (k < 12) := by show _ < _; omega
  clear hc hbs hp hk hn1 htime hshort hflat hms
  go_enter Tryd.func3, Tryd.ntmps3
  go_wp2_with (first
    | (go_at_call 4; refine (awake_any _ HC.out).mono ?_; rintro e w1 ⟨rfl, hB⟩)
    | (at_builtin; go_loud (refine wpList_copy_bytes (w := w1) a len cap bs (HBS.out.keep hB) rfl _ _ rfl _ rfl rfl rfl ?_; intro a2 c2 w2 ho2 hb2; have HB2 : Hid (Bs w2 a2 len c2 bs) := (Ob.bs ho2 HBS.out.row.small HBS.out.size).1; replace hB := hB.trans (hb2.mono hB.size); clear ho2 hb2))
    | (go_at_call 5; go_loud (refine (parse_any _ _ _ bs _ HB2.out (HC.out.keep hB)).mono ?_; rintro e w3 ⟨he, hb3⟩; obtain ⟨a3, c3, rfl, hf3⟩ := he.elim HP.out; have HF3 : Hid (Frs w2.heap.size w3 (.slice a3 fs.length c3) fs ∧ Below w2.heap.size w2 w3) := ⟨hf3, hb3⟩; have hnew := four_new w3 (.int .i64 (k : Nat)) (.int .i64 (ch : Nat)) (.slice a3 fs.length c3) (.int .i64 (pad : Nat)) 26; have HB3 : Hid (Below w.heap.size w w2) := hB; rw [HN.out] at hnew ⊢; replace hB := hB.trans (hb3.mono hB.size); clear he hb3 hf3))
    | (go_at_call 6; go_loud (have hA := (Below.refl w3.heap.size w3).alloc (Nat.le_refl _) (.cells #[.int .i64 (k : Nat), .int .i64 (ch : Nat), .slice a3 n c3, .int .i64 (pad : Nat)] 26); refine (of_good k HK.out _ (HC.out.keep (hB.trans (hA.mono hB.size)))).mono ?_; rintro e w4 ⟨rfl, hb4⟩; have hbx := hnew.keep hb4; have HW4 : Hid (Below w3.heap.size w3 w4 ∧ w3.heap.size < w4.heap.size) := ⟨hA.trans (hb4.mono hA.size), hbx.lt⟩; clear hA hnew)))
  obtain ⟨L, hL, htm⟩ := tm_start (wP := w2) (w3 := w3) (W := w4.alloc (.cells #[.int .i64 (modeN k), .int .i64 (rateN k), .int .i64 (msN k)] 31)) (C := w4.heap.size) (z := (z : Int)) HN.out HF3.out.1 (by rw [HN.out]; omega) HF3.out.2 (HW4.out.1.trans ((Below.refl w4.heap.size w4).alloc (Nat.le_refl _) _ |>.mono HW4.out.1.size)) (hbx.alloc _) ⟨_, _, _, (by rw [← HZ.out]; exact heap_alloc_new _ _)⟩
  subst hL
  have HTM : Hid (Tm w2 _ w3.heap.size w4.heap.size L n c3 k ch pad (z : Int) fs) := htm
  have HPC : Hid (w3.heap.size < w4.heap.size) := HW4.out.2
  generalize hP : w3.heap.size = P at *
  generalize hCC : w4.heap.size = C at *
  clear htm hbx hb4 hB HW4 hP hCC
  go_loopw [8, 9] (fun s i W => ∃ j t : Nat, j ≤ n ∧ i = .int .i64 j ∧ s = .int .i64 t ∧ t ≤ 1275 * j ∧ Hid (t = (flatN (fs.take j)).length ∧ Tm w2 W P C L n c3 k ch pad (z : Int) fs)) (fun _ i _ => n - (intOf i).toNat)
  case atStart => exact ⟨0, 0, Nat.zero_le _, rfl, rfl, Nat.zero_le _, rfl, HTM.out⟩
  case round =>
    clear HTM
    obtain ⟨j, t, hj, rfl, rfl, ht, HR⟩ := hrel
    obtain ⟨r0, r1, r2, r3⟩ := HR.out.2.box.cells
    by_cases hlt : j < n
    · obtain ⟨ua, uc, hc, _⟩ := HR.out.2.list j hlt
      have HX : Hid ((flatN (fs.take (j + 1))).length = (flatN (fs.take j)).length + (fs[j]?.getD []).length) := flat_step (by rw [HN.out]; exact hlt)
      have hx : (fs[j]?.getD []).length ≤ 1275 := HSH.out _ (by rw [List.getElem?_eq_getElem (by rw [HN.out]; omega)]; exact List.getElem_mem _)
      have HL : Hid (∀ W, Tm w2 W P C L n c3 k ch pad (z : Int) fs → ∃ ua uc, W.cell? ⟨L, j, none⟩ = some (.slice ua (fs[j]?.getD []).length uc) ∧ Room W w2.heap.size P L ua (fs[j]?.getD []).length) := fun W h => h.list j hlt
      generalize (fs[j]?.getD []).length = x at *
      go_wp2
      go_loopw [10] (fun kk W => ∃ m : Nat, m ≤ x ∧ kk = .int .i64 m ∧ Hid (Tm w2 W P C L n c3 k ch pad (z : Int) fs)) (fun kk _ => x - (intOf kk).toNat)
      case atStart => exact ⟨0, Nat.zero_le _, rfl, HR.out.2⟩
      case round =>
        clear r0 r1 r2 r3 hc
        obtain ⟨m, hm, rfl, HT2⟩ := hrel
        obtain ⟨r0, r1, r2, r3⟩ := HT2.out.box.cells
        obtain ⟨ub, uc2, hc, hroom⟩ := HL.out _ HT2.out
        by_cases hlt2 : m < x
        · obtain ⟨g, cur, ty, rfl, hg1, hg2, hg3, hg4, hg5⟩ := hroom (by omega)
          obtain ⟨v, hv⟩ : ∃ v, wr.cell? ⟨g, m, none⟩ = some v := ⟨cur[m]'(by omega), by rw [cell_of_row wr g m cur ty (0, 0) hg4]; exact Array.getElem?_eq_getElem (by omega)⟩
          have hfz : wr.frozen? ⟨g, m, none⟩ = false := by simp [World.frozen?, hg4]
          have HG : Hid (w2.heap.size ≤ g ∧ g < P ∧ g ≠ L) := ⟨hg1, hg2, hg3⟩
          clear hg4 hg5 hg1 hg2 hg3 hroom
          go_wp2
          go_roundw
          case rel => exact ⟨m + 1, by omega, by go_num, HT2.out.step m _ HG.out.1 HG.out.2.1 HG.out.2.2 HPC.out⟩
          case measure => simp [intOf]; omega
        · clear hroom
          go_wp2
          go_roundw
          case rel => exact ⟨j + 1, t + x, by omega, by go_num, by go_num, by omega, by rw [HX.out, HR.out.1], HT2.out⟩
          case measure => simp [intOf]; omega
    · obtain rfl : j = n := by omega
      have hb5 : Bs wr a2 len c2 bs := HB2.out.keep HR.out.2.below
      have hb6 : Bs wr a len cap bs := HBS.out.keep (HB3.out.trans (HR.out.2.below.mono HB3.out.size))
      have hs1 := str_plain hb5.row hb5.len (fun h => (hb5.nil h).2) rfl
      have hs2 := str_plain hb6.row hb6.len (fun h => (hb6.nil h).2) rfl
      generalize strN bs = y at *
      obtain ⟨x1, y1, t1, hcf⟩ := HR.out.2.cfg
      have hc2 : wr.cell? ⟨C, 2, none⟩ = some (.int .i64 (z : Int)) := cell_of_row wr C 2 _ t1 _ hcf
      have HBW : Hid (Below w.heap.size w wr) := HB3.out.trans (HR.out.2.below.mono HB3.out.size)
      have hmul : decide ((j : Int) * (z : Int) ≤ 120) = true := decide_eq_true HT.out
      have hmul2 : 0 ≤ (j : Int) * (z : Int) ∧ (j : Int) * (z : Int) ≤ 120 := ⟨Int.mul_nonneg (by omega) (by omega), HT.out⟩
      have hge : decide ((1 : Int) ≤ (j : Int)) = true := decide_eq_true (by omega)
      have hlast : t < len := (by
        have h1 := HR.out.1
        have h2 := HFL.out
        rw [← HN.out, flatN_all] at h1
        omega)
      clear hb5 hb6 hcf
      go_wp2
      go_ret
      exact ⟨rfl, HBW.out⟩

theorem tocTimes.walk (a : Option Addr) (len cap : Nat) (z : List Int) (w : World) (hz : IsRow .u8 w a len cap z) (hc : CfgAt w) :
    Calls Tryd.prog 3 #[.slice a len cap] w fun e w' => e = .returned (.bool true) ∧ Below w.heap.size w w' := by
  obtain ⟨h1, h2, h3, h4, h5⟩ := byteRow_of hz
  unfold maxLen at h5
  by_cases hl : 20000 < len
  · exact times_long a len cap w hl (by omega) hc
  · have hbs : Bs w a len cap (natsOf (z.take len)) := ⟨h1, h2, h3, h4, by omega⟩
    cases hp : parseN (natsOf (z.take len)) with
    | none => exact times_none a len cap _ w hbs (by omega) hp hc
    | some p =>
      obtain ⟨k, ch, fs, pad⟩ := p
      exact times_some a len cap _ w hbs (by omega) k ch pad fs hp hc

end Go.Proofs.YtgiellpepnbpcabDoor
