/- Texts put together: LpcA LpcB LpcC LpcD LpcE LpcF LpcG. -/
import Derived.Test.YtjaccokmficfdaaLpcN
import Derived.Test.YtjaccokmficfdaaNumC
import Derived.Test.YtjaccokmficfdaaSynQ
import Derived.Deep.MidRow
import Derived.Deep.RegionHeld3
import Derived.Lib.SliceRun
/- What package lpc's small calls come to: a number clamped, a list clamped, a filter weakened, a filter measured. -/
namespace Go.Proofs.Ytjaccokmficfdaa
open Go.RowKit

theorem clampNumber_any (a : Int) (w : World) :
    Calls Try.prog 36 #[.int .i64 a] w fun e w' => e = .returned (.int .i64 (c17 a)) ∧ w' = w := by
  go_enter Try.func36, Try.ntmps36
  go_wp2_with (go_at_call 29; refine (clamp_any _ _ _ _).mono ?_; rintro e w' ⟨rfl, rfl⟩)
  go_ret
  exact ⟨rfl, rfl⟩

theorem c17_at {zs : List Int} {j : Nat} (h : j < zs.length) : (zs.map c17)[j]?.getD 0 = c17 (zs[j]?.getD 0) := by
  rw [List.getElem?_map, List.getElem?_eq_getElem h]
  rfl

set_option maxHeartbeats 1000000 in
theorem cclampAll_any (a : Option Addr) (n cap : Nat) (zs : List Int) (w : World) (hz : Zs w a n zs) (hn : n ≤ 1000) :
    Calls Try.prog 45 #[.slice a n cap] w fun e w' => ∃ a', e = .returned (.slice a' n n) ∧ NewRow 2 w.heap.size w' a' (zs.map c17) ∧ Below w.heap.size w w' := by
  have hl := hz.len
  have HZ : Hid (∀ W, Below w.heap.size w W → Zs W a n zs) := fun W hb => hz.keep hb
  have HF : Hid (∀ j, j < n → (zs.map c17)[j]?.getD 0 = c17 (zs[j]?.getD 0)) := fun j hj => c17_at (by omega)
  have HL : Hid ((zs.map c17).length = n) := by show _ = _; rw [List.length_map, hl]
  clear hz hl
  generalize zs.map c17 = f at *
  have hmk := fun W : World => run_make_row' (P := Try.prog) 23 2 (.int .i64 0) 8 Try.underlying23 info_int64 rfl .i64 .i64 n (by omega) (by omega) W
  go_enter Try.func45, Try.ntmps45
  go_wp2
  go_loopw [4, 5, 11] (fun _ _ k W => ∃ m : Nat, m ≤ n ∧ k = .int .i64 m ∧ W.rowIs w.heap.size 2 n (fun j => .int .i64 (if j < m then f[j]?.getD 0 else 0)) ∧ Below w.heap.size w W) (fun _ _ k _ => n - (intOf k).toNat)
  case atStart => exact ⟨0, Nat.zero_le _, rfl, World.rowIs_made w _ _ _, (Below.refl _ _).alloc (Nat.le_refl _) _⟩
  case round =>
    obtain ⟨m, hm, rfl, hrow, hbel⟩ := hrel
    by_cases hlt : m < n
    · have hfz := hrow.frozen m
      obtain ⟨x, hx⟩ : ∃ x, wr.cell? ⟨w.heap.size, m, none⟩ = some x := ⟨_, hrow.cell hlt⟩
      obtain ⟨b, off, rfl, hb, hc⟩ := (HZ.out wr hbel).at_ (by omega)
      have hcm := hc m hlt
      have hfm := HF.out m hlt
      generalize zs[m]?.getD 0 = z at hcm hfm
      have HFm : Hid (c17 z = f[m]?.getD 0) := hfm.symm
      have HR : Hid ((wr.setCell ⟨w.heap.size, m, none⟩ (.int .i64 (f[m]?.getD 0))).rowIs w.heap.size 2 n (fun j => .int .i64 (if j < m + 1 then f[j]?.getD 0 else 0))) := rowIs_step (f := fun j => f[j]?.getD 0) hrow (by omega)
      have HB : Hid (Below w.heap.size w (wr.setCell ⟨w.heap.size, m, none⟩ (.int .i64 (f[m]?.getD 0)))) := hbel.setCell (Nat.le_refl _) _
      clear hrow hbel HF hc HZ hfm
      generalize f[m]?.getD 0 = fm at HFm HR HB
      go_wp2_with (go_at_call 36; refine (clampNumber_any _ _).mono ?_; rw [HFm.out]; rintro e w' ⟨rfl, rfl⟩)
      go_roundw
      case rel => exact ⟨m + 1, by omega, by go_num, HR.out, HB.out⟩
      case measure => simp [intOf]; omega
    · have hm' : m = n := by omega
      subst hm'
      have HR : Hid (NewRow 2 w.heap.size wr (some ⟨w.heap.size, 0, none⟩) f) := NewRow.of_rowIs hrow (Nat.le_refl _) HL.out (fun j hj => by rw [if_pos hj])
      clear hrow HF HZ
      go_wp2
      go_ret
      exact ⟨_, rfl, HR.out, hbel⟩

set_option maxHeartbeats 2000000 in
theorem chirp_any (a : Option Addr) (n cap : Nat) (zs : List Int) (c : Int) (w : World) (hz : Zs w a n zs) (hn : n ≤ 32) :
    Calls Try.prog 46 #[.slice a n cap, .int .i64 c] w fun e w' => ∃ a', e = .returned (.slice a' n n) ∧ NewRow 2 w.heap.size w' a' (chirpL zs c) ∧ Below w.heap.size w w' := by
  have hl := hz.len
  have HZ : Hid (∀ W, Below w.heap.size w W → Zs W a n zs) := fun W hb => hz.keep hb
  have HF : Hid (∀ j, j < n → (chirpL zs c)[j]?.getD 0 = chirpN (clampI c 0 65536) (j + 1) (zs[j]?.getD 0)) := fun j hj => chirpL_at (by omega)
  have HL : Hid ((chirpL zs c).length = n) := by show _ = _; rw [chirpL_len, hl]
  clear hz hl
  generalize chirpL zs c = f at *
  have hmk := fun W : World => run_make_row' (P := Try.prog) 23 2 (.int .i64 0) 8 Try.underlying23 info_int64 rfl .i64 .i64 n (by omega) (by omega) W
  go_enter Try.func46, Try.ntmps46
  go_wp2_with (go_at_call 29; refine (clamp_any _ _ _ _).mono ?_; rintro e w ⟨rfl, rfl⟩)
  generalize clampI c 0 65536 = q at *
  go_loopw [6, 7, 18] (fun _ _ k W => ∃ m : Nat, m ≤ n ∧ k = .int .i64 m ∧ W.rowIs w.heap.size 2 n (fun j => .int .i64 (if j < m then f[j]?.getD 0 else 0)) ∧ Below w.heap.size w W) (fun _ _ k _ => n - (intOf k).toNat)
  case atStart => exact ⟨0, Nat.zero_le _, rfl, World.rowIs_made w _ _ _, (Below.refl _ _).alloc (Nat.le_refl _) _⟩
  case round =>
    obtain ⟨m, hm, rfl, hrow, hbel⟩ := hrel
    by_cases hlt : m < n
    · have hfz := hrow.frozen m
      obtain ⟨x, hx⟩ : ∃ x, wr.cell? ⟨w.heap.size, m, none⟩ = some x := ⟨_, hrow.cell hlt⟩
      obtain ⟨b, off, rfl, hb, hc⟩ := (HZ.out wr hbel).at_ (by omega)
      have hcm := hc m hlt
      have hfm := HF.out m hlt
      generalize zs[m]?.getD 0 = z at hcm hfm
      have HFm : Hid (chirpN q (m + 1) z = f[m]?.getD 0) := hfm.symm
      have HR : Hid ((wr.setCell ⟨w.heap.size, m, none⟩ (.int .i64 (f[m]?.getD 0))).rowIs w.heap.size 2 n (fun j => .int .i64 (if j < m + 1 then f[j]?.getD 0 else 0))) := rowIs_step (f := fun j => f[j]?.getD 0) hrow (by omega)
      have HB : Hid (Below w.heap.size w (wr.setCell ⟨w.heap.size, m, none⟩ (.int .i64 (f[m]?.getD 0)))) := hbel.setCell (Nat.le_refl _) _
      clear hrow hbel HF hc HZ hfm
      generalize f[m]?.getD 0 = fm at HFm HR HB
      go_wp2
      go_loopw [7, 25] (fun v i W => W = wr ∧ ∃ t : Nat, ∃ u : Int, t ≤ m + 1 ∧ i = .int .i64 t ∧ v = .int .i64 u ∧ Hid (u = chirpN q t z)) (fun _ i _ => m + 1 - (intOf i).toNat)
      case atStart => exact ⟨rfl, 0, z, Nat.zero_le _, rfl, rfl, rfl⟩
      case round =>
        obtain ⟨rfl, t, u, ht, rfl, rfl, HU⟩ := hrel
        by_cases htl : t < m + 1
        · have HS : Hid (mulI u q 16 = chirpN q (t + 1) z) := by show _ = _; rw [HU.out]; rfl
          go_wp2_with (go_at_call 25; refine (mul_any _ _ _ _).mono ?_; rw [HS.out]; rintro e w' ⟨rfl, rfl⟩)
          go_roundw
          case rel => exact ⟨trivial, t + 1, _, by omega, by go_num, rfl, rfl⟩
          case measure => simp [intOf]; omega
        · have ht' : t = m + 1 := by omega
          subst ht'
          rw [HFm.out] at HU
          have e := HU.out
          subst e
          go_wp2
          go_roundw
          case rel => exact ⟨m + 1, by omega, by go_num, HR.out, HB.out⟩
          case measure => simp [intOf]; omega
    · have hm' : m = n := by omega
      subst hm'
      have HR : Hid (NewRow 2 w.heap.size wr (some ⟨w.heap.size, 0, none⟩) f) := NewRow.of_rowIs hrow (Nat.le_refl _) HL.out (fun j hj => by rw [if_pos hj])
      clear hrow HF HZ
      go_wp2
      go_ret
      exact ⟨_, rfl, HR.out, hbel⟩

theorem chirp_far (a : Option Addr) (n cap : Nat) (c : Int) (w : World) (hn : 32 < n) :
    Calls Try.prog 46 #[.slice a n cap, .int .i64 c] w fun e w' => e = .returned (.slice none 0 0) ∧ w' = w := by
  have hn' : ((32 : Int) < n) = True := eq_true (by omega)
  go_enter Try.func46, Try.ntmps46
  go_wp2
  go_ret
  exact ⟨rfl, rfl⟩

end Go.Proofs.Ytjaccokmficfdaa

/- Arrays of 32 numbers in memory. -/
namespace Go.Proofs.Ytjaccokmficfdaa
open Go.RowKit



theorem info_arr : (Try.prog.info? 47).map (·.size) = some 32 := by kernel_rfl
def zero32 : List Int := List.replicate 32 0
/-- The whole array is loaded, is stored. -/
theorem ArrAt.loaded {w : World} {g : Nat} {zs : List Int} (h : ArrAt w g zs) (hl : zs.length = 32) :
    (Instr.loadAt 47 (.pointer (some ⟨g, 0, none⟩))).run Try.prog w = .ok (.agg (arrV zs)) w := by
  refine run_loadAt_mid w g 0 47 (zs.map (Value.int .i64)) _ (fun j v hv => ?_) Try.underlying47 rfl (by rw [List.length_map, hl]; exact info_arr)
  have hj : j < zs.length := by have := (List.getElem?_eq_some_iff.1 hv).1; simpa using this
  rw [Nat.zero_add, h.cell hj, ← hv, List.getElem?_map, List.getElem?_eq_getElem hj]
  rfl
theorem ArrAt.stored {w : World} {g : Nat} {old : List Int} (h : ArrAt w g old) (zs : List Int) (ho : old.length = 32) (hl : zs.length = 32) :
    (Instr.storeAt 47 (.pointer (some ⟨g, 0, none⟩)) (.agg (arrV zs))).run Try.prog w = .ok () (w.setRow g (arrV zs)) := by
  obtain ⟨t, h⟩ := h
  simp only [Instr.storeAt, Instr.sureAddr, Sem.run_bind, Sem.run_pure, Result.andThen_ok]
  exact run_storeVar_row w g t _ _ _ h (by rw [arrV_size, hl]; exact info_arr) (by rw [arrV_size, arrV_size, ho, hl]) (arrV_one zs)

theorem below_setRow {B : Nat} {a w : World} (h : Below B a w) {g : Nat} (hg : B ≤ g) (cs : Array Value) : Below B a (w.setRow g cs) :=
  h.trans ⟨rfl, rfl, rfl, by simp [World.setRow], fun k hk => setRow_other w g k cs (by omega)⟩

/-- One store of the whole array, in the kit's two words. -/
theorem setCells_row {w : World} {g : Nat} {old : List Int} (h : ArrAt w g old) (zs : List Int) (ho : old.length = 32) (hl : zs.length = 32) : w.setCells g 0 (zs.map (Value.int .i64)) = w.setRow g (arrV zs) := by
  have h1 := h.stored zs ho hl
  have h2 := run_storeAt_mid (P := Try.prog) w g 0 47 (arrV zs) (h.isThere (by rw [arrV_size]; omega)) (by rw [arrV_size, hl]; exact info_arr) (arrV_one zs)
  rw [h1] at h2
  have h3 := (Result.ok.injEq _ _ _ _).mp h2
  rw [h3.2]
  simp [arrV]
theorem ArrAt.cells {w : World} {g : Nat} {old : List Int} (h : ArrAt w g old) (zs : List Int) (ho : old.length = 32) (hl : zs.length = 32) : ArrAt (w.setCells g 0 (zs.map (Value.int .i64))) g zs := by
  rw [setCells_row h zs ho hl]
  exact h.row zs
theorem ArrAt.cellsOther {w : World} {g k : Nat} {zs : List Int} (h : ArrAt w g zs) (hk : g ≠ k) : ∀ (cs : List Value) (o : Nat), ArrAt (w.setCells k o cs) g zs
  | cs, o => by
    induction cs generalizing w o with
    | nil => exact h
    | cons v r ih => exact ih (h.other (p := ⟨k, o, none⟩) hk v) (o + 1)

end Go.Proofs.Ytjaccokmficfdaa

/- A filter without its last number: what package lpc's call comes to. -/
namespace Go.Proofs.Ytjaccokmficfdaa
open Go.RowKit

def AtN (A : Act) (W : World) : Exit → Act → World → Prop
  | .normal, a, w => a = A ∧ w = W
  | _, _, _ => False
theorem AtN.goes {A : Act} {W : World} {Q : Exit → Act → World → Prop} (h : Q .normal A W) : ∀ (e : Exit) (a : Act) (w : World), AtN A W e a w → Q e a w := fun e a w h' => by
  cases e <;> first | (obtain ⟨rfl, rfl⟩ := h'; exact h) | exact (h' : False).elim

theorem zero32_arr : arrV zero32 = #[.int .i64 0, .int .i64 0, .int .i64 0, .int .i64 0, .int .i64 0, .int .i64 0, .int .i64 0, .int .i64 0, .int .i64 0, .int .i64 0, .int .i64 0, .int .i64 0, .int .i64 0, .int .i64 0, .int .i64 0, .int .i64 0, .int .i64 0, .int .i64 0, .int .i64 0, .int .i64 0, .int .i64 0, .int .i64 0, .int .i64 0, .int .i64 0, .int .i64 0, .int .i64 0, .int .i64 0, .int .i64 0, .int .i64 0, .int .i64 0, .int .i64 0, .int .i64 0] := rfl

/-- All of the new filter, then what stays. -/
def lessL (zs : List Int) (m : Nat) : List Int := downL zs m ++ zs.drop m
theorem lessL_len {zs : List Int} {m : Nat} (h : zs.length = 32) (hm : m ≤ 32) : (lessL zs m).length = 32 := by
  unfold lessL
  rw [List.length_append, downL_len, List.length_drop]
  omega
theorem lessL_at {zs : List Int} {m k : Nat} (h : k < m) : (lessL zs m)[k]?.getD 0 = downAt zs m k := by
  unfold lessL
  rw [List.getElem?_append_left (by rw [downL_len]; exact h)]
  exact downL_at h
theorem lessL_mix {zs : List Int} {m : Nat} : mixL (lessL zs m) zs m = lessL zs m := by
  unfold mixL lessL
  rw [List.take_left' (downL_len zs m)]
theorem lessL_down {zs : List Int} {m k : Nat} (h : k < m) : (lessL zs m)[k]?.getD 0 = (downL zs m)[k]?.getD 0 := by
  rw [lessL_at h, downL_at h]

theorem lead_in {r : Int} (h : -16760438 ≤ r ∧ r ≤ 16760438) : 1 ≤ 16777216 - mulI r r 24 ∧ 16777216 - mulI r r 24 ≤ 16777217 := by
  have h2 := prod_le (p := 16760438) (q := 16760438) (x := r) (y := r) ⟨by omega, h.2⟩ ⟨by omega, h.2⟩
  have h3 : 0 ≤ r * r := by
    rcases Int.le_total 0 r with h4 | h4
    · exact Int.mul_nonneg h4 h4
    · have := Int.mul_nonneg (a := -r) (b := -r) (by omega) (by omega)
      rwa [Int.neg_mul_neg] at this
  rw [mul24_is, cf_same (a := r) (by omega) (by omega)]
  omega
theorem mul24_in (a b : Int) : -274877906945 ≤ mulI a b 24 ∧ mulI a b 24 ≤ 274877906945 := by
  have h1 := cf_in a
  have h2 := cf_in b
  have h := prod_le (p := 2147483648) (q := 2147483648) (x := cf a) (y := cf b) ⟨by omega, h1.2⟩ ⟨by omega, h2.2⟩
  rw [mul24_is]
  omega

set_option maxRecDepth 100000 in
set_option maxHeartbeats 4000000 in
theorem less_any (zs : List Int) (m : Nat) (w : World) (hl : zs.length = 32) (hm : m < 32) (hr : -16760438 ≤ zs[m]?.getD 0 ∧ zs[m]?.getD 0 ≤ 16760438) (hz : ∀ k, k < m → -2147483648 ≤ zs[k]?.getD 0 ∧ zs[k]?.getD 0 ≤ 2147483648) :
    Calls Try.prog 37 #[.agg (arrV zs), .int .i64 (m : Int)] w fun e w' => e = .returned (.agg (arrV (lessL zs m))) ∧ Below w.heap.size w w' := by
  have HB : Hid (∀ W, Below (w.heap.size + 2) ((w.alloc (.cells (arrV zs) 47)).alloc (.cells (arrV zero32) 47)) W → Below w.heap.size w W) := fun W hb =>
    (((Below.refl _ _).alloc (Nat.le_refl _) _).alloc (by simp) _).trans (hb.mono (by omega))
  have hg0 : ArrAt ((w.alloc (.cells (arrV zs) 47)).alloc (.cells (arrV zero32) 47)) w.heap.size zs := (arrAt_alloc w zs _).alloc _
  have hg1 : ArrAt ((w.alloc (.cells (arrV zs) 47)).alloc (.cells (arrV zero32) 47)) (w.heap.size + 1) zero32 := by
    have := arrAt_alloc (w.alloc (.cells (arrV zs) 47)) zero32 47
    rwa [World.size_alloc] at this
  have hsz : ((w.alloc (.cells (arrV zs) 47)).alloc (.cells (arrV zero32) 47)).heap.size = w.heap.size + 2 := by simp
  go_enter Try.func37, Try.ntmps37
  go_wp2
  rw [← zero32_arr]
  generalize hW : ((w.alloc (.cells (arrV zs) 47)).alloc (.cells (arrV zero32) 47)) = W at *
  clear hW
  generalize hgg : w.heap.size = g at *
  have HGG : Hid (w.heap.size = g) := hgg
  clear hgg
  have hcs : (zs.map (Value.int .i64)).length = 32 := by rw [List.length_map, hl]
  have hone : ∀ v ∈ zs.map (Value.int .i64), v.oneCell' = true := fun v hv => by
    obtain ⟨x, _, rfl⟩ := List.mem_map.1 hv
    rfl
  have hinfo : (Try.prog.info? 47).map (·.size) = some (zs.map (Value.int .i64)).length := by rw [hcs]; exact info_arr
  have hund := Try.underlying47
  have hm1 : (0 : Int) ≤ (m : Int) := by omega
  have hm2 : (m : Int) < 32 := by omega
  have HR : Hid (∀ V, ArrAt V g zs → V.rangeAt g 0 (zs.map (Value.int .i64)) ∧ V.cell? ⟨g, m, none⟩ = some (.int .i64 (zs[m]?.getD 0))) := fun V h => ⟨h.range, h.cell (by omega)⟩
  have HE := HR.out W hg0
  have H0 := HR.out W.drew hg0.drew
  have hg3 : ArrAt (W.alloc (.cells (arrV zero32) 47)).drew (g + 2) zero32 := by
    have := (arrAt_alloc W zero32 47).drew
    rwa [hsz] at this
  have H1 := HR.out (W.alloc (.cells (arrV zero32) 47)).drew (hg0.alloc _).drew
  have T : (W.alloc (.cells (arrV zero32) 47)).drew.there (g + 2) 0 32 := hg3.isThere (Nat.le_refl _)
  have HF : Hid (ArrAt ((W.alloc (.cells (arrV zero32) 47)).drew.setCells (g + 2) 0 (zs.map (Value.int .i64))) (g + 2) zs ∧ ArrAt ((W.alloc (.cells (arrV zero32) 47)).drew.setCells (g + 2) 0 (zs.map (Value.int .i64))) g zs ∧ ArrAt ((W.alloc (.cells (arrV zero32) 47)).drew.setCells (g + 2) 0 (zs.map (Value.int .i64))) (g + 1) zero32
      ∧ Below (g + 2) W ((W.alloc (.cells (arrV zero32) 47)).drew.setCells (g + 2) 0 (zs.map (Value.int .i64)))) :=
    ⟨hg3.cells zs rfl hl, (hg0.alloc _).drew.cellsOther (by omega) _ _, (hg1.alloc _).drew.cellsOther (by omega) _ _, by
      rw [setCells_row hg3 zs rfl hl]
      exact below_setRow ((Below.refl _ _).alloc (by omega) _).drew (Nat.le_refl _) _⟩
  have H2 := HR.out _ HF.out.2.1
  rw [zero32_arr] at HF T H1 H2
  clear hg3 hg0 hg1
  generalize hrz : zs[m]?.getD 0 = r at *
  have HRR : Hid (r = zs[m]?.getD 0) := hrz.symm
  clear hrz
  unfold arrV at *
  generalize hv : zs.map (Value.int .i64) = cs at *
  go_region_held3 (fun V => V.rangeAt g 0 cs ∧ V.cell? ⟨g, m, none⟩ = some (.int .i64 r)) (assumption) (fail)
  generalize hV : (W.alloc _).drew.setCells (g + 2) 0 cs = V at *
  clear hV
  have HS : Hid (ArrAt V g (mixL (lessL zs m) zs 0) ∧ ArrAt V (g + 2) zs ∧ ArrAt V (g + 1) zero32 ∧ Below g w V) := ⟨HF.out.2.1, HF.out.1, HF.out.2.2.1, HB.out _ HF.out.2.2.2⟩
  clear HF H0 H1 H2 HE T HR HB hinfo hund hone hsz
  have HC : Hid (∀ j, j < m → clampI (divI (zs[j]?.getD 0 + mulI r (zs[m - 1 - j]?.getD 0) 24) (16777216 - mulI r r 24) 24) (-2147483648) 2147483648 = (lessL zs m)[j]?.getD 0) := fun j hj => by
    rw [lessL_at hj, HRR.out]; rfl
  obtain ⟨hd1, hd2⟩ := lead_in hr
  have hll := lessL_len hl (Nat.le_of_lt hm)
  generalize hrr : mulI r r 24 = rr at *
  have HZ : Hid (∀ k, k < m → -2147483648 ≤ zs[k]?.getD 0 ∧ zs[k]?.getD 0 ≤ 2147483648) := hz
  clear hz hr
  go_wp2_with (go_at_call 25; refine (mul_any _ _ _ _).mono ?_; rintro e w' ⟨rfl, rfl⟩; rw [hrr])
  clear hrr
  go_loopw [8, 9, 19] (fun _ _ k W => ∃ j : Nat, j ≤ m ∧ k = .int .i64 j ∧ Hid (ArrAt W g (mixL (lessL zs m) zs j) ∧ ArrAt W (g + 2) zs ∧ ArrAt W (g + 1) zero32 ∧ Below g w W)) (fun _ _ k _ => m - (intOf k).toNat)
  case atStart => exact ⟨0, Nat.zero_le _, rfl, HS⟩
  case round =>
    clear HS
    obtain ⟨j, hj, rfl, HW⟩ := hrel
    by_cases hlt : j < m
    · obtain ⟨i, hi⟩ : ∃ i : Nat, m - 1 - j = i := ⟨_, rfl⟩
      have hmj : (m : Int) = (j : Int) + (i : Int) + 1 := by omega
      have hlen := mixL_len hll hl (show j ≤ 32 by omega)
      have hA := HW.out.1.cell (i := j) (by omega)
      rw [mixL_at hll hl (by omega)] at hA
      have hF := HW.out.1.frozen j
      have hB := HW.out.2.1.cell (i := j) (by omega)
      have hC := HW.out.2.1.cell (i := i) (by omega)
      have h1 := HZ.out j hlt
      have h2 := HZ.out i (by omega)
      have h3 := HC.out j hlt
      rw [hi] at h3
      have h4 := mul24_in r (zs[i]?.getD 0)
      have hst := mixL_step hll hl (show j < 32 by omega)
      generalize zs[j]?.getD 0 = x at *
      generalize zs[i]?.getD 0 = z at *
      generalize (lessL zs m)[j]?.getD 0 = v at *
      generalize hy : mulI r z 24 = y at *
      have HV : Hid (clampI (divI (x + y) (16777216 - rr) 24) (-2147483648) 2147483648 = v) := h3
      have HN : Hid (∀ n, ArrAt ((wr.drewN n).setCell ⟨g, j, none⟩ (.int .i64 v)) g (mixL (lessL zs m) zs (j + 1)) ∧ ArrAt ((wr.drewN n).setCell ⟨g, j, none⟩ (.int .i64 v)) (g + 2) zs ∧ ArrAt ((wr.drewN n).setCell ⟨g, j, none⟩ (.int .i64 v)) (g + 1) zero32 ∧ Below g w ((wr.drewN n).setCell ⟨g, j, none⟩ (.int .i64 v))) := fun n =>
        ⟨by rw [hst]; exact (HW.out.1.drewN n).set j v, (HW.out.2.1.drewN n).other (p := ⟨g, j, none⟩) (by simp) _, (HW.out.2.2.1.drewN n).other (p := ⟨g, j, none⟩) (by simp) _, (below_drewN HW.out.2.2.2 n).setCell (p := ⟨g, j, none⟩) (Nat.le_refl _) _⟩
      have HWS : Hid (IntKind.i64.wrap (x + y) = x + y) := by show _ = _; rw [IntKind.wrap_i64]; omega
      have hw1 : IntKind.i64.wrap ((m : Int) - 1) = (m : Int) - 1 := by rw [IntKind.wrap_i64]; omega
      have hw2 : IntKind.i64.wrap ((m : Int) - 1 - (j : Int)) = (i : Int) := by rw [IntKind.wrap_i64]; omega
      have HM : Hid (∀ W, Calls Try.prog 25 #[.int .i64 r, .int .i64 z, .int .i64 24] W fun e w' => e = .returned (.int .i64 y) ∧ w' = W) := fun W => by rw [← hy]; exact mul_any _ _ _ _
      clear hy
      have hj1 : (0 : Int) ≤ (j : Int) := by omega
      have hj2 : (j : Int) < 32 := by omega
      have hi1 : (0 : Int) ≤ (i : Int) := by omega
      have hi2 : (i : Int) < 32 := by omega
      clear h3 hst hlen HW HC HZ HRR hmj
      go_wp2
      go_quiet (first | (go_at_call 25; exact Calls.quiet_of_same (HM.out _)))
      go_wp2_with (first
        | (go_at_call 41; refine (div_any _ _ _ _).mono ?_; rintro e w2 ⟨rfl, n2, rfl⟩; rw [World.drewN_drewN])
        | (go_at_call 29; refine (clamp_any _ _ _ _).mono ?_; rw [HV.out]; rintro e w3 ⟨rfl, rfl⟩))
      go_roundw
      case rel => exact ⟨j + 1, by omega, by go_num, HN.out _⟩
      case measure => simp [intOf]; omega
    · have hm' : j = m := by omega
      subst hm'
      rw [lessL_mix] at HW
      have hE : Hid (Below g w (wr.setRow (g + 1) (arrV (lessL zs j)))) := below_setRow HW.out.2.2.2 (by omega) _
      have hK : Hid (ArrAt (wr.setRow (g + 1) (arrV (lessL zs j))) (g + 1) (lessL zs j)) := HW.out.2.2.1.row _
      obtain ⟨t1, h1⟩ := HW.out.1
      obtain ⟨t2, h2⟩ := HW.out.2.2.1
      obtain ⟨t3, h3⟩ := hK.out
      clear HW HC HZ
      go_wp2_with (first
        | (refine wpList_load_row rfl 47 _ rfl g rfl t1 (arrV (lessL zs j)) (0, 0) _ h1 Try.underlying47 rfl (by rw [arrV_size, hll]; exact info_arr) ?_)
        | (refine wpList_store_row rfl 47 _ _ rfl (g + 1) (arrV (lessL zs j)) rfl rfl t2 _ h2 (by rw [arrV_size, hll]; exact info_arr) (by rw [arrV_size, arrV_size, hll]; rfl) (arrV_one _) ?_))
      exact bodyPost_ret (results_cell_row rfl _ _ (g + 1) t3 (arrV (lessL zs j)) (0, 0) _ rfl h3 Try.underlying47 rfl (by rw [arrV_size, hll]; exact info_arr)) rfl ⟨rfl, by rw [HGG.out]; exact hE.out⟩

end Go.Proofs.Ytjaccokmficfdaa

/- Does a filter die away: what package lpc's call comes to; a filter fitted. -/
namespace Go.Proofs.Ytjaccokmficfdaa
open Go.RowKit

def wide32 (zs : List Int) : List Int := wideL zs ++ List.replicate (32 - zs.length) 0
theorem wide32_len {zs : List Int} (h : zs.length ≤ 32) : (wide32 zs).length = 32 := by
  unfold wide32
  rw [List.length_append, wideL_len, List.length_replicate]
  omega
theorem wide32_at {zs : List Int} {k : Nat} (h : k < zs.length) : (wide32 zs)[k]?.getD 0 = (wideL zs)[k]?.getD 0 := by
  unfold wide32
  rw [List.getElem?_append_left (by rw [wideL_len]; exact h)]
theorem wideL_at {zs : List Int} {k : Nat} (h : k < zs.length) : (wideL zs)[k]?.getD 0 = c17 (zs[k]?.getD 0) * 4096 := by
  unfold wideL
  rw [List.getElem?_map, List.getElem?_eq_getElem h]
  rfl
theorem wide32_mix {zs : List Int} : mixL (wide32 zs) zero32 zs.length = wide32 zs := by
  unfold mixL wide32 zero32
  rw [List.take_left' (wideL_len zs), List.drop_replicate]

theorem cstable_far (a : Option Addr) (n cap : Nat) (w : World) (hn : 32 < n) :
    Calls Try.prog 18 #[.slice a n cap] w fun e w' => e = .returned (.bool false) ∧ w' = w := by
  have hn' : ((32 : Int) < n) = True := eq_true (by omega)
  go_enter Try.func18, Try.ntmps18
  go_wp2
  go_ret
  exact ⟨rfl, rfl⟩

set_option maxRecDepth 100000 in
set_option maxHeartbeats 4000000 in
theorem cstable_any (a : Option Addr) (n cap : Nat) (zs : List Int) (w : World) (hz : Zs w a n zs) (hn : n ≤ 32) :
    Calls Try.prog 18 #[.slice a n cap] w fun e w' => e = .returned (.bool (stableZ zs)) ∧ Below w.heap.size w w' := by
  have hl := hz.len
  have HZ : Hid (∀ W, Below w.heap.size w W → Zs W a n zs) := fun W hb => hz.keep hb
  have HL : Hid ((wide32 zs).length = 32) := wide32_len (by omega)
  have HX : Hid (mixL (wide32 zs) zero32 n = wide32 zs) := by show _ = _; rw [← hl]; exact wide32_mix
  have HV : Hid (∀ j, j < n → c17 (zs[j]?.getD 0) * 4096 = (wide32 zs)[j]?.getD 0) := fun j hj => by rw [wide32_at (by omega), wideL_at (by omega)]
  have HI : Hid (∀ j, j < n → -2147483648 ≤ (wide32 zs)[j]?.getD 0 ∧ (wide32 zs)[j]?.getD 0 ≤ 2147483648) := fun j hj => by
    rw [wide32_at (by omega), wideL_at (by omega)]
    have := c17_in (zs[j]?.getD 0)
    omega
  have HS : Hid (stableZ zs = stableN n (wide32 zs)) := by
    show _ = _
    rw [stableZ_near (by omega), hl]
    exact stableN_congr n fun k hk => (wide32_at (by omega)).symm
  have HA0 : Hid (ArrAt (w.alloc (.cells (arrV zero32) 47)) w.heap.size zero32) := arrAt_alloc w zero32 _
  have HB0 : Hid (Below w.heap.size w (w.alloc (.cells (arrV zero32) 47))) := (Below.refl _ _).alloc (Nat.le_refl _) _
  clear hz hl
  have hn' : ((32 : Int) < n) = False := eq_false (by omega)
  generalize hsv : stableZ zs = sv at *
  clear hsv
  generalize wide32 zs = L at *
  go_enter Try.func18, Try.ntmps18
  go_wp2
  rw [← zero32_arr]
  go_loopw [4, 5, 12] (fun _ _ k W => ∃ m : Nat, m ≤ n ∧ k = .int .i64 m ∧ Hid (ArrAt W w.heap.size (mixL L zero32 m) ∧ Below w.heap.size w W)) (fun _ _ k _ => n - (intOf k).toNat)
  case atStart => exact ⟨0, Nat.zero_le _, rfl, HA0.out, HB0.out⟩
  case round =>
    clear HA0 HB0
    obtain ⟨m, hm, rfl, HW⟩ := hrel
    by_cases hlt : m < n
    · obtain ⟨b, off, rfl, hb, hc⟩ := (HZ.out wr HW.out.2).at_ (by omega)
      have hlen := mixL_len HL.out (show zero32.length = 32 from rfl) (show m ≤ 32 by omega)
      have hcm := hc m hlt
      have hf := HW.out.1.frozen m
      have ho := HW.out.1.cell (i := m) (by omega)
      have hst := mixL_step HL.out (show zero32.length = 32 from rfl) (show m < 32 by omega)
      have hv := HV.out m hlt
      have hin := c17_in (zs[m]?.getD 0)
      generalize (mixL L zero32 m)[m]?.getD 0 = old at *
      generalize zs[m]?.getD 0 = z at *
      generalize L[m]?.getD 0 = v at *
      have hn1 : (0 : Int) ≤ (m : Int) := by omega
      have hn2 : (m : Int) < 32 := by omega
      have HC : Hid (∀ W, Calls Try.prog 36 #[.int .i64 z] W fun e w' => e = .returned (.int .i64 (c17 z)) ∧ w' = W) := fun W => clampNumber_any z W
      obtain rfl : v = 4096 * c17 z := by omega
      generalize c17 z = cz at *
      have HN : Hid (ArrAt (wr.setCell ⟨w.heap.size, m, none⟩ (.int .i64 (4096 * cz))) w.heap.size (mixL L zero32 (m + 1)) ∧ Below w.heap.size w (wr.setCell ⟨w.heap.size, m, none⟩ (.int .i64 (4096 * cz)))) :=
        ⟨by rw [hst]; exact HW.out.1.set m _, HW.out.2.setCell (p := ⟨w.heap.size, m, none⟩) (Nat.le_refl _) _⟩
      clear hc hst hlen hv HV HI HS HZ HW HX HL
      go_wp2_with (go_at_call 36; refine (HC.out _).mono ?_; rintro e w' ⟨rfl, rfl⟩)
      go_roundw
      case rel => exact ⟨m + 1, by omega, by go_num, HN.out⟩
      case measure => simp [intOf]; omega
    · have hm' : m = n := by omega
      subst hm'
      rw [HX.out] at HW
      clear HX HV HZ
      go_wp2
      go_loopw [6] (fun k W => ∃ t : Nat, ∃ b : List Int, t ≤ m ∧ k = .int .i64 ((t : Int) - 1) ∧ Hid (ArrAt W w.heap.size b ∧ b.length = 32 ∧ stableN t b = sv ∧ (∀ j, j < t → -2147483648 ≤ b[j]?.getD 0 ∧ b[j]?.getD 0 ≤ 2147483648) ∧ Below w.heap.size w W)) (fun k _ => (intOf k + 1).toNat)
      case atStart => exact ⟨m, L, Nat.le_refl _, rfl, HW.out.1, HL.out, HS.out.symm, HI.out, HW.out.2⟩
      case round =>
        clear HW HL HS HI
        obtain ⟨t, b, ht, rfl, HH⟩ := hrel
        cases t with
        | zero =>
          have e : sv = true := HH.out.2.2.1.symm
          have HB : Hid (Below w.heap.size w wr) := HH.out.2.2.2.2
          subst e
          clear HH
          go_wp2
          go_ret
          exact ⟨rfl, HB.out⟩
        | succ t =>
          have hk : ((t + 1 : Nat) : Int) - 1 = (t : Int) := by omega
          have hlen := HH.out.2.1
          have hct := HH.out.1.cell (i := t) (by omega)
          have hst := HH.out.2.2.1
          have hin := HH.out.2.2.2.1
          have ht1 : (0 : Int) ≤ (t : Int) := by omega
          have ht2 : (t : Int) < 32 := by omega
          have HB : Hid (Below w.heap.size w wr) := HH.out.2.2.2.2
          by_cases h1 : 16760438 < b[t]?.getD 0
          · rw [stableN_bad (.inl h1)] at hst
            subst hst
            generalize b[t]?.getD 0 = r at *
            clear HH hin
            go_wp2
            go_ret
            exact ⟨rfl, HB.out⟩
          · by_cases h2 : b[t]?.getD 0 < -16760438
            · rw [stableN_bad (.inr h2)] at hst
              subst hst
              generalize b[t]?.getD 0 = r at *
              clear HH hin
              go_wp2
              go_ret
              exact ⟨rfl, HB.out⟩
            · rw [stableN_step (by omega)] at hst
              have HL2 := lessL_len (m := t) hlen (by omega)
              have HC : Hid (Calls Try.prog 37 #[.agg (arrV b), .int .i64 (t : Int)] wr fun e w' => e = .returned (.agg (arrV (lessL b t))) ∧ Below wr.heap.size wr w') :=
                less_any b t wr hlen (by omega) (by omega) (fun k hk' => hin k (by omega))
              have HN : Hid (∀ W, Below wr.heap.size wr W → ArrAt (W.setRow w.heap.size (arrV (lessL b t))) w.heap.size (lessL b t) ∧ (lessL b t).length = 32 ∧ stableN t (lessL b t) = sv ∧ (∀ j, j < t → -2147483648 ≤ (lessL b t)[j]?.getD 0 ∧ (lessL b t)[j]?.getD 0 ≤ 2147483648) ∧ Below w.heap.size w (W.setRow w.heap.size (arrV (lessL b t)))) := fun W hW =>
                ⟨(HH.out.1.keep hW).row _, HL2, by rw [← hst]; exact stableN_congr t (fun k hk' => lessL_down hk'), fun j hj => by rw [lessL_at hj]; exact downAt_in b t j,
                  below_setRow (HB.out.trans (hW.mono HB.out.size)) (Nat.le_refl _) _⟩
              have HA := HH.out.1
              have HK : Hid (∀ W, Below wr.heap.size wr W → ArrAt W w.heap.size b) := fun W hW => HA.keep hW
              obtain ⟨t1, h3⟩ := HA
              generalize b[t]?.getD 0 = r at *
              clear HH hin hst
              go_wp2_with (first
                | (refine wpList_load_row rfl 47 _ rfl w.heap.size rfl t1 (arrV b) (0, 0) _ h3 Try.underlying47 rfl (by rw [arrV_size, hlen]; exact info_arr) ?_)
                | (go_at_call 37; refine HC.out.mono ?_; rintro e w4 ⟨rfl, hb4⟩; obtain ⟨t4, h4⟩ := HK.out _ hb4)
                | (refine wpList_store_row rfl 47 _ _ rfl w.heap.size (arrV (lessL b t)) rfl rfl t4 _ h4 (by rw [arrV_size, HL2]; exact info_arr) (by rw [arrV_size, arrV_size, HL2, hlen]) (arrV_one _) ?_))
              go_roundw
              case rel => exact ⟨t, _, by omega, by go_num, HN.out _ hb4⟩
              case measure => simp [intOf]

end Go.Proofs.Ytjaccokmficfdaa

/- A filter fitted: what package lpc's call comes to. -/
namespace Go.Proofs.Ytjaccokmficfdaa
open Go.RowKit

def zset : List Int → Nat → Nat → List Int
  | l, _, 0 => l
  | l, o, k + 1 => zset (l.set o 0) (o + 1) k
theorem zset_len : ∀ (k : Nat) (l : List Int) (o : Nat), (zset l o k).length = l.length
  | 0, _, _ => rfl
  | k + 1, l, o => by show (zset (l.set o 0) (o + 1) k).length = _; rw [zset_len k, List.length_set]
theorem zset_at : ∀ (k : Nat) (l : List Int) (o j : Nat), (zset l o k)[j]?.getD 0 = if o ≤ j ∧ j < o + k then 0 else l[j]?.getD 0
  | 0, l, o, j => by rw [if_neg (by omega)]; rfl
  | k + 1, l, o, j => by
    show (zset (l.set o 0) (o + 1) k)[j]?.getD 0 = _
    rw [zset_at k, List.getElem?_set]
    by_cases h1 : o = j
    · subst h1
      rw [if_neg (by omega), if_pos rfl, show (if o ≤ o ∧ o < o + (k + 1) then (0 : Int) else l[o]?.getD 0) = 0 from if_pos (by omega)]
      split <;> rfl
    · rw [if_neg h1]
      by_cases h2 : o + 1 ≤ j ∧ j < o + 1 + k
      · rw [if_pos h2, if_pos (by omega)]
      · rw [if_neg h2, if_neg (by omega)]
theorem zset_all (l : List Int) : zset l 0 l.length = List.replicate l.length 0 := by
  apply List.ext_getElem
  · rw [zset_len, List.length_replicate]
  · intro i h1 h2
    have h := zset_at l.length l 0 i
    rw [zset_len] at h1
    rw [if_pos (by omega)] at h
    rw [List.getElem_replicate]
    rwa [List.getElem?_eq_getElem (by rw [zset_len]; exact h1)] at h
theorem NewRow.zeros {e : TypeId} {B : Nat} {b : Nat} : ∀ (k : Nat) {w : World} {zs : List Int} (o : Nat), NewRow e B w (some ⟨b, 0, .none⟩) zs → NewRow e B (w.setCells b o (List.replicate k (.int .i64 0))) (some ⟨b, 0, .none⟩) (zset zs o k)
  | 0, _, _, _, h => h
  | k + 1, _, _, o, h => NewRow.zeros k (o + 1) (h.set o 0)
theorem below_zeros {B : Nat} {b : Nat} (hb : B ≤ b) : ∀ (k : Nat) {a w : World} (o : Nat), Below B a w → Below B a (w.setCells b o (List.replicate k (.int .i64 0)))
  | 0, _, _, _, h => h
  | k + 1, _, _, o, h => below_zeros hb k (o + 1) (h.setCell (p := ⟨b, o, none⟩) hb _)

theorem cfit_far (a : Option Addr) (n cap : Nat) (w : World) (hn : 32 < n) :
    Calls Try.prog 26 #[.slice a n cap] w fun e w' => e = .returned (.slice none 0 0) ∧ w' = w := by
  have hn' : ((32 : Int) < n) = True := eq_true (by omega)
  go_enter Try.func26, Try.ntmps26
  go_wp2
  go_ret
  exact ⟨rfl, rfl⟩

theorem zero_run : ∀ w : World, (zeroValue 2).run Try.prog w = .ok (.int .i64 0) w := fun w => by
  obtain ⟨i, hi, hzz⟩ := Option.map_eq_some_iff.1 info_int64
  simp only [Prod.mk.injEq] at hzz
  simp [zeroValue, typeInfo, hi, hzz.1]

set_option maxRecDepth 100000 in
set_option maxHeartbeats 4000000 in
theorem cfit_any (a : Option Addr) (n cap : Nat) (zs : List Int) (w : World) (hz : Zs w a n zs) (hn : n ≤ 32) :
    Calls Try.prog 26 #[.slice a n cap] w fun e w' => ∃ a', e = .returned (.slice a' n n) ∧ NewRow 2 w.heap.size w' a' (fitZ zs) ∧ Below w.heap.size w w' := by
  have hl := hz.len
  have HF : Hid (fitZ zs = fitN 16 1 (zs.map c17)) := fitZ_near (by omega)
  have HL : Hid ((zs.map c17).length = n) := by show _ = _; rw [List.length_map, hl]
  have hn' : ((32 : Int) < n) = False := eq_false (by omega)
  generalize fitZ zs = F at *
  go_enter Try.func26, Try.ntmps26
  go_wp2_with (go_at_call 45; refine (cclampAll_any _ _ _ zs _ hz (by omega)).mono ?_; rintro e w1 ⟨a1, rfl, hn1, hb1⟩)
  generalize zs.map c17 = z0 at *
  have HS : Hid (NewRow 2 w.heap.size w1 a1 z0 ∧ Below w.heap.size w w1) := ⟨hn1, hb1⟩
  clear hz hl hn1 hb1
  go_loopw [3, 4] (fun s k W => ∃ (r : Nat) (a3 : Option Addr) (b : List Int), 1 ≤ r ∧ r ≤ 17 ∧ k = .int .i64 r ∧ s = .slice a3 n n ∧ b.length = n ∧ Hid (fitN (17 - r) r b = F ∧ NewRow 2 w.heap.size W a3 b ∧ Below w.heap.size w W)) (fun _ k _ => 17 - (intOf k).toNat)
  case atStart => exact ⟨1, a1, z0, Nat.le_refl _, by omega, rfl, rfl, HL.out, HF.out.symm, HS.out.1, HS.out.2⟩
  case round =>
    clear HS HF HL
    obtain ⟨r, a3, b, hr1, hr2, rfl, rfl, hbl, HH⟩ := hrel
    have HZ : Hid (∀ W, Below wr.heap.size wr W → Zs W a3 n b) := fun W hW => (Zs.of_new HH.out.2.1 hbl).keep hW
    have HK : Hid (∀ W, Below wr.heap.size wr W → NewRow 2 w.heap.size W a3 b) := fun W hW => HH.out.2.1.keep hW
    have HB := HH.out.2.2
    have HB2 : Hid (∀ W, Below wr.heap.size wr W → Below w.heap.size w W) := fun W hW => HB.trans (hW.mono HB.size)
    have hfit := HH.out.1
    have hr0 := Below.refl wr.heap.size wr
    by_cases hlt : r < 17
    · have hk : ((r : Int) ≤ 16) = True := eq_true (by omega)
      cases hs : stableZ b with
      | true =>
        rw [fitN_yes hs] at hfit
        subst hfit
        clear HH
        have HC : Hid (Calls Try.prog 18 #[.slice a3 n n] wr fun e w' => e = .returned (.bool true) ∧ Below wr.heap.size wr w') := by
          have := cstable_any a3 n n b wr (HZ.out _ hr0) hn
          rwa [hs] at this
        go_wp2_with (go_at_call 18; refine HC.out.mono ?_; rintro e w4 ⟨rfl, hb4⟩)
        go_ret
        exact ⟨_, rfl, HK.out _ hb4, HB2.out _ hb4⟩
      | false =>
        rw [show 17 - r = (17 - (r + 1)) + 1 by omega, fitN_no hs] at hfit
        clear HH
        have HC : Hid (Calls Try.prog 18 #[.slice a3 n n] wr fun e w' => e = .returned (.bool false) ∧ Below wr.heap.size wr w') := by
          have := cstable_any a3 n n b wr (HZ.out _ hr0) hn
          rwa [hs] at this
        go_wp2_with (first
          | (go_at_call 18; refine HC.out.mono ?_; rintro e w4 ⟨rfl, hb4⟩; have hz4 := HZ.out _ hb4)
          | (go_at_call 46; refine (chirp_any _ _ _ b _ _ hz4 hn).mono ?_; rintro e w5 ⟨a5, rfl, hn5, hb5⟩))
        have hb6 := HB2.out _ hb4
        go_roundw
        case rel => exact ⟨r + 1, _, _, by omega, by omega, by go_num, rfl, by rw [chirpL_len, hbl], hfit, hn5.mono hb6.size, hb6.trans (hb5.mono hb6.size)⟩
        case measure => simp [intOf]; omega
    · have hk : ((r : Int) ≤ 16) = False := eq_false (by omega)
      have hr : r = 17 := by omega
      subst hr
      cases hs : stableZ b with
      | true =>
        rw [fitN_yes hs] at hfit
        subst hfit
        clear HH
        have HC : Hid (Calls Try.prog 18 #[.slice a3 n n] wr fun e w' => e = .returned (.bool true) ∧ Below wr.heap.size wr w') := by
          have := cstable_any a3 n n b wr (HZ.out _ hr0) hn
          rwa [hs] at this
        go_wp2_with (go_at_call 18; refine HC.out.mono ?_; rintro e w4 ⟨rfl, hb4⟩)
        go_ret
        exact ⟨_, rfl, HK.out _ hb4, HB2.out _ hb4⟩
      | false =>
        rw [show 17 - 17 = 0 from rfl, fitN_end hs] at hfit
        subst hfit
        have hn0 : 0 < b.length := by
          rcases Nat.eq_zero_or_pos b.length with h | h
          · rw [List.length_eq_zero_iff.1 h] at hs
            cases hs
          · exact h
        obtain ⟨g, rfl, hg1, hg2⟩ := HH.out.2.1.some_of hn0
        have HC : Hid (Calls Try.prog 18 #[.slice (some ⟨g, 0, none⟩) n n] wr fun e w' => e = .returned (.bool false) ∧ Below wr.heap.size wr w') := by
          have := cstable_any (some ⟨g, 0, none⟩) n n b wr (HZ.out _ hr0) hn
          rwa [hs] at this
        have HCL : Hid (∀ W, Below wr.heap.size wr W → ∀ ty, (Builtin.clear_ #[23] ty #[.slice (some ⟨g, 0, none⟩) n n]).run Try.prog W = .ok (.tuple #[]) (W.setCells g 0 (List.replicate n (.int .i64 0)))) := fun W hW ty =>
          Lib.run_clear_slice W _ _ ty (.int .i64 0) Try.underlying23 zero_run rfl rfl g 0 n n (by omega)
            (fun j hj => by rw [Nat.zero_add, (HK.out W hW).cellAt (i := j) (by omega)]; rfl) (fun j _ => by rw [Nat.zero_add]; exact (HK.out W hW).frozenAt hn0 j)
        have HE : Hid (∀ W, Below wr.heap.size wr W → NewRow 2 w.heap.size (W.setCells g 0 (List.replicate n (.int .i64 0))) (some ⟨g, 0, none⟩) (List.replicate b.length 0) ∧ Below w.heap.size w (W.setCells g 0 (List.replicate n (.int .i64 0)))) := fun W hW =>
          ⟨by rw [← zset_all b, hbl]; exact NewRow.zeros n 0 (HK.out W hW), below_zeros hg1 n 0 (HB2.out W hW)⟩
        clear HH
        go_wp2_with (go_at_call 18; refine HC.out.mono ?_; rintro e w4 ⟨rfl, hb4⟩; have hcl := HCL.out _ hb4)
        go_ret
        exact ⟨_, rfl, (HE.out _ hb4).1, (HE.out _ hb4).2⟩

end Go.Proofs.Ytjaccokmficfdaa

/- Frequencies as cosines: what package lpc's call comes to. -/
namespace Go.Proofs.Ytjaccokmficfdaa
open Go.RowKit

theorem make_room64 (c : Nat) (hc : c ≤ 1000) (w : World) :
    (Instr.makeSlice 23 (.int .i64 0) (.int .i64 (c : Int))).run Try.prog w = .ok (.slice (some ⟨w.heap.size, 0, none⟩) 0 c) (w.alloc (.cells (madeCells #[.int .i64 0] c) 2)) := by
  obtain ⟨i, hi, hzz⟩ := Option.map_eq_some_iff.1 info_int64
  simp only [Prod.mk.injEq] at hzz
  obtain ⟨hz, hs, hb⟩ := hzz
  have hr := run_make (P := Try.prog) w 23 2 i (.int .i64 0) Try.underlying23 hi hz .i64 .i64 0 c (Int.le_refl _) (by omega) (by rw [hb]; omega) (by omega)
  simp only [Int.toNat_natCast, hs, Nat.mul_one, Int.toNat_zero] at hr
  exact hr

def wavesL (l : List Int) (f : Nat) : List Int := (List.range (l.length / 2)).map fun j => waveZ l (2 * j + f)
theorem wavesL_len (l : List Int) (f : Nat) : (wavesL l f).length = l.length / 2 := by unfold wavesL; rw [List.length_map, List.length_range]
theorem wavesL_at {l : List Int} {f j : Nat} (h : j < l.length / 2) : (wavesL l f)[j]?.getD 0 = 4 * cosI (clampI (l[2 * j + f]?.getD 0) 0 32768) := by
  unfold wavesL
  rw [List.getElem?_map, List.getElem?_range h]
  rfl
theorem wavesL_in (l : List Int) (f : Nat) : ∀ x ∈ wavesL l f, -262148 ≤ x ∧ x ≤ 262148 := fun x hx => by
  obtain ⟨j, _, rfl⟩ := List.mem_map.1 hx
  exact wave_in _

set_option maxHeartbeats 2000000 in
theorem cosines_any (a : Option Addr) (n cap h f : Nat) (zs : List Int) (w : World) (hz : Zs w a n zs) (hn : n = 2 * h) (hh : h ≤ 100) (hf : f ≤ 1) :
    Calls Try.prog 62 #[.slice a n cap, .int .i64 (f : Int)] w fun e w' => ∃ a' c', e = .returned (.slice a' h c') ∧ NewRow 2 w.heap.size w' a' (wavesL zs f) ∧ Below w.heap.size w w' := by
  have hl := hz.len
  have HZ : Hid (∀ W, Below w.heap.size w W → Zs W a n zs) := fun W hb => hz.keep hb
  have HL : Hid ((wavesL zs f).length = h) := by show _ = _; rw [wavesL_len]; omega
  have HV : Hid (∀ j, j < h → 4 * cosI (clampI (zs[2 * j + f]?.getD 0) 0 32768) = (wavesL zs f)[j]?.getD 0) := fun j hj => (wavesL_at (by omega)).symm
  have HN : Hid (n = 2 * h) := hn
  have hq : IntKind.i64.wrap (Int.tdiv (n : Int) 2) = (h : Int) := by
    rw [Int.tdiv_eq_ediv_of_nonneg (by omega), IntKind.wrap_i64]
    omega
  have hq2 : Int.tdiv (n : Int) 2 = (h : Int) := by rw [Int.tdiv_eq_ediv_of_nonneg (by omega)]; omega
  have hmk := make_room64 h (by omega)
  clear hz hl hn
  generalize wavesL zs f = F at *
  go_enter Try.func62, Try.ntmps62
  go_wp2
  have HO : Hid ((w.alloc (.cells (madeCells #[.int .i64 0] h) 2)).ownsRow w.heap.size 2 1 (.slice (some ⟨w.heap.size, 0, none⟩) 0 h) 0 []) := World.ownsRow_made w _ h (Nat.le_refl _) (by unfold maxLen; omega) (by rw [size_madeCells]; simp)
  have HB0 : Hid (Below w.heap.size w (w.alloc (.cells (madeCells #[.int .i64 0] h) 2))) := (Below.refl _ _).alloc (Nat.le_refl _) _
  clear hq hq2 hmk
  go_loopw [5, 6] (fun v i W => ∃ j k : Nat, j ≤ h ∧ i = .int .i64 k ∧ Hid (k = 2 * j + f ∧ W.ownsRow w.heap.size 2 1 v j ((F.take j).map (Value.int .i64)) ∧ Below w.heap.size w W)) (fun _ i _ => n + 2 - (intOf i).toNat)
  case atStart => exact ⟨0, f, Nat.zero_le _, rfl, by omega, HO.out, HB0.out⟩
  case round =>
    clear HO HB0
    obtain ⟨j, k, hj, rfl, HH⟩ := hrel
    have hkn := HN.out
    have hkk := HH.out.1
    have hown := HH.out.2.1
    have hbel := HH.out.2.2
    by_cases hlt : j < h
    · obtain ⟨b, off, rfl, hb, hc⟩ := (HZ.out _ hbel).at_ (by omega)
      have hck := hc k (by omega)
      have hv := HV.out j hlt
      rw [← hkk] at hv
      have hkn' : ((k : Int) < (n : Int)) = True := eq_true (by omega)
      have HM : Hid (n + 2 - (k + 2) < n + 2 - k ∧ k + 2 = 2 * (j + 1) + f) := by show _ ∧ _; omega
      have hk0 : k ≤ 1000 := by omega
      generalize zs[k]?.getD 0 = z at *
      have HT : Hid (F.take j ++ [F[j]?.getD 0] = F.take (j + 1)) := (take_snoc (by rw [HL.out]; exact hlt)).symm
      have hw := wave_in (clampI z 0 32768)
      have HC : Hid (∀ W, Calls Try.prog 67 #[.int .i64 (clampI z 0 32768)] W fun e w' => e = .returned (.int .i64 (cosI (clampI z 0 32768))) ∧ Below W.heap.size W w') := fun W => cos_any _ W
      generalize cosI (clampI z 0 32768) = y at *
      have HY : Hid (4 * y = F[j]?.getD 0) := hv
      have HO2 : Hid (∀ W, Below wr.heap.size wr W → W.ownsRow w.heap.size 2 1 u5 j ((F.take j).map (Value.int .i64)) ∧ Below w.heap.size w W) := fun W hW => ⟨ownsRow_below hown hW, hbel.trans (hW.mono hbel.size)⟩
      clear hc HH HZ HV hkk hkn hv hown hbel HN
      go_wp2_with (first
        | (go_at_call 29; refine (clamp_any _ _ _ _).mono ?_; rintro e w' ⟨rfl, rfl⟩)
        | (go_at_call 67; refine (HC.out _).mono ?_; rintro e w5 ⟨rfl, hb5⟩; obtain ⟨hown5, hbel5⟩ := HO2.out _ hb5; have hs5 := hbel5.size)
        | (at_builtin; refine wpList_append_one 23 2 Try.underlying23 info_int64 w.heap.size _ j (F.take j) _ hown5 (by omega) hs5 rfl _ _ rfl rfl rfl ?_; rw [HY.out, HT.out]; intro v' w6 hown6 hb6; have hb7 := hbel5.trans hb6))
      go_roundw
      case rel => exact ⟨j + 1, k + 2, by omega, by go_num, HM.out.2, hown6, hb7⟩
      case measure => simp [intOf]; exact HM.out.1
    · have hj' : j = h := by omega
      subst hj'
      have hkn' : ((k : Int) < (n : Int)) = False := eq_false (by omega)
      rw [List.take_of_length_le (by rw [HL.out]; omega)] at hown
      obtain ⟨_, a', c', rfl, hnew⟩ := NewRow.of_owned hown
      clear hown HV HZ HH HN
      go_wp2
      go_ret
      exact ⟨_, _, rfl, hnew, hbel⟩

end Go.Proofs.Ytjaccokmficfdaa

/- A polynomial multiplied out in place: plain lists, then package lpc's call. -/
namespace Go.Proofs.Ytjaccokmficfdaa
open Go.RowKit

/-- A list with noughts behind, n long. -/
def padL (l : List Int) (n : Nat) : List Int := l ++ List.replicate (n - l.length) 0
theorem padL_len {l : List Int} {n : Nat} (h : l.length ≤ n) : (padL l n).length = n := by
  unfold padL
  rw [List.length_append, List.length_replicate]
  omega
theorem padL_at (l : List Int) (n k : Nat) : (padL l n)[k]?.getD 0 = atZ l k := by
  unfold padL atZ
  rcases Nat.lt_or_ge k l.length with h | h
  · rw [List.getElem?_append_left h]
  · rw [List.getElem?_append_right h, List.getElem?_eq_none h]
    exact zero_at _ _
theorem list_ext_at {a b : List Int} (hl : a.length = b.length) (h : ∀ k, k < a.length → a[k]?.getD 0 = b[k]?.getD 0) : a = b := by
  apply List.ext_getElem hl
  intro i h1 h2
  have := h i h1
  rwa [List.getElem?_eq_getElem h1, List.getElem?_eq_getElem h2] at this
theorem mixL_get {L l0 : List Int} {n m k : Nat} (h : L.length = n) (h0 : l0.length = n) (hm : m ≤ n) : (mixL L l0 m)[k]?.getD 0 = if k < m then L[k]?.getD 0 else l0[k]?.getD 0 := by
  unfold mixL
  by_cases hk : k < m
  · rw [List.getElem?_append_left (by rw [List.length_take]; omega), List.getElem?_take_of_lt hk, if_pos hk]
  · rw [List.getElem?_append_right (by rw [List.length_take]; omega), List.length_take, List.getElem?_drop, if_neg hk, show m + (k - min m L.length) = k by omega]
/-- From the back: the number at m turned. -/
theorem mixL_back {L l0 : List Int} {n m : Nat} (h : L.length = n) (h0 : l0.length = n) (hm : m < n) : (mixL L l0 (m + 1)).set m (l0[m]?.getD 0) = mixL L l0 m := by
  apply list_ext_at
  · rw [List.length_set, mixL_len h h0 (by omega), mixL_len h h0 (by omega)]
  · intro k _
    rw [mixL_get h h0 (by omega), List.getElem?_set]
    by_cases e : m = k
    · subst e
      rw [if_pos rfl, mixL_len h h0 (by omega), if_pos hm, if_neg (by omega)]
      rfl
    · rw [if_neg e, mixL_get h h0 (by omega)]
      by_cases hk : k < m
      · rw [if_pos (by omega), if_pos hk]
      · rw [if_neg (by omega), if_neg hk]

/-- Behind k numbers, and one more. -/
def polyP (ys : List Int) (n k : Nat) : List Int := padL (polyK ys (k - 1)) n
theorem polyP_len {ys : List Int} {n k : Nat} (h : k - 1 + 2 ≤ n) : (polyP ys n k).length = n := padL_len (by rw [polyK_len]; omega)
theorem polyP_step {ys : List Int} {n k i : Nat} (hk : 1 ≤ k) (hi : i ≤ k + 1) : (polyP ys n (k + 1))[i]?.getD 0 = polyAt (atZ ys k) (polyK ys (k - 1)) i := by
  unfold polyP
  rw [padL_at]
  obtain ⟨j, rfl⟩ : ∃ j, k = j + 1 := ⟨k - 1, by omega⟩
  show atZ (polyS (atZ ys (j + 1)) (polyK ys j)) i = _
  rw [polyS_at (by rw [polyK_len]; omega)]
  rfl
theorem polyP_far {ys : List Int} {n k i : Nat} (hk : 1 ≤ k) (hi : k < i) : (polyP ys n k)[i]?.getD 0 = 0 := by
  unfold polyP
  rw [padL_at]
  unfold atZ
  rw [List.getElem?_eq_none (by rw [polyK_len]; omega)]
  rfl
theorem polyP_at {ys : List Int} {n k i : Nat} : (polyP ys n k)[i]?.getD 0 = atZ (polyK ys (k - 1)) i := padL_at _ _ _
/-- The first of all: the last number. -/
theorem polyP_top {ys : List Int} {n k : Nat} (hk : 1 ≤ k) : (polyP ys n (k + 1))[k + 1]?.getD 0 = 2 * (polyP ys n k)[k - 1]?.getD 0 - mulI (atZ ys k) ((polyP ys n k)[k]?.getD 0) 16 := by
  rw [polyP_step hk (Nat.le_refl _), polyP_at, polyP_at]
  unfold polyAt
  rw [if_neg (by omega), if_neg (by omega), if_pos (by rw [polyK_len]; omega)]
  rfl
theorem polyP_mid {ys : List Int} {n k i : Nat} (h2 : 2 ≤ i) (hi : i ≤ k) : (polyP ys n (k + 1))[i]?.getD 0 = (polyP ys n k)[i]?.getD 0 + ((polyP ys n k)[i - 2]?.getD 0 - mulI (atZ ys k) ((polyP ys n k)[i - 1]?.getD 0) 16) := by
  rw [polyP_step (by omega) (by omega), polyP_at, polyP_at, polyP_at]
  unfold polyAt
  rw [if_neg (by omega), if_neg (by omega), if_neg (by rw [polyK_len]; omega)]
  omega
theorem polyP_one {ys : List Int} {n k : Nat} (hk : 1 ≤ k) : (polyP ys n (k + 1))[1]?.getD 0 = (polyP ys n k)[1]?.getD 0 - atZ ys k := by
  rw [polyP_step hk (by omega), polyP_at]
  unfold polyAt
  rw [if_neg (by omega), if_pos rfl]
theorem polyP_none {ys : List Int} {n k : Nat} (hk : 1 ≤ k) : (polyP ys n (k + 1))[0]?.getD 0 = (polyP ys n k)[0]?.getD 0 := by
  rw [polyP_step hk (by omega), polyP_at]
  unfold polyAt
  rw [if_pos rfl]
theorem polyP_start {ys : List Int} {n k : Nat} (hk : 1 ≤ k) (hn : k + 2 ≤ n) : mixL (polyP ys n k) (polyP ys n (k + 1)) (k + 2) = polyP ys n k := by
  have l1 : (polyP ys n k).length = n := polyP_len (by omega)
  have l2 : (polyP ys n (k + 1)).length = n := polyP_len (by omega)
  apply list_ext_at
  · rw [mixL_len l1 l2 hn, l1]
  · intro i _
    rw [mixL_get l1 l2 hn]
    by_cases hi : i < k + 2
    · rw [if_pos hi]
    · rw [if_neg hi, polyP_far (by omega) (by omega), polyP_far hk (by omega)]
theorem polyP_end {ys : List Int} {n k : Nat} (hk : 1 ≤ k) (hn : k + 2 ≤ n) : mixL (polyP ys n k) (polyP ys n (k + 1)) 1 = polyP ys n (k + 1) := by
  have l1 : (polyP ys n k).length = n := polyP_len (by omega)
  have l2 : (polyP ys n (k + 1)).length = n := polyP_len (by omega)
  apply list_ext_at
  · rw [mixL_len l1 l2 (by omega), l2]
  · intro i _
    rw [mixL_get l1 l2 (by omega)]
    by_cases hi : i < 1
    · obtain rfl : i = 0 := by omega
      rw [if_pos hi, polyP_none hk]
    · rw [if_neg hi]
theorem polyP_in {ys : List Int} {n k : Nat} (hy : ∀ x ∈ ys, -262148 ≤ x ∧ x ≤ 262148) (hk : k ≤ 8) (i : Nat) : -251871798400 ≤ (polyP ys n k)[i]?.getD 0 ∧ (polyP ys n k)[i]?.getD 0 ≤ 251871798400 := by
  rw [polyP_at]
  have h1 := polyK_bnd (bnd_of (by decide) hy) (k - 1) i
  have h2 := bndN_mono (k - 1) 7 (by omega)
  rw [bndN_seven] at h2
  omega
theorem polyP_done {ys : List Int} {n : Nat} (h : 0 < ys.length) (hn : n = ys.length + 1) : polyP ys n ys.length = polyZ ys := by
  unfold polyP padL polyZ
  rw [polyK_len, show n - (ys.length - 1 + 2) = 0 by omega]
  exact List.append_nil _
theorem polyP_first (ys : List Int) (n : Nat) (hn : 2 ≤ n) : ((List.replicate n (0 : Int)).set 0 65536).set 1 (-(atZ ys 0)) = polyP ys n 1 := by
  apply list_ext_at
  · rw [List.length_set, List.length_set, List.length_replicate, polyP_len (by omega)]
  · intro i hi
    rw [List.length_set, List.length_set, List.length_replicate] at hi
    rw [polyP_at, List.getElem?_set, List.length_set, List.length_replicate]
    by_cases h1 : 1 = i
    · subst h1
      rw [if_pos rfl, if_pos hi]
      rfl
    · rw [if_neg h1, List.getElem?_set, List.length_replicate]
      by_cases h0 : 0 = i
      · subst h0
        rw [if_pos rfl, if_pos hi]
        rfl
      · rw [if_neg h0, zero_at]
        unfold atZ
        rw [List.getElem?_eq_none (by rw [polyK_len]; omega)]
        rfl
theorem mul16_far {y x : Int} (hy : -262148 ≤ y ∧ y ≤ 262148) (hx : -251871798400 ≤ x ∧ x ≤ 251871798400) : -1259358992001 ≤ mulI y x 16 ∧ mulI y x 16 ≤ 1259358992001 := by
  have := mul16_in (B := 251871798400) (by decide) hy hx
  omega

end Go.Proofs.Ytjaccokmficfdaa

