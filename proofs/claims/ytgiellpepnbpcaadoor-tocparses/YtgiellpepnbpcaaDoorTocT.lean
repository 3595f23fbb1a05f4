/- What every law of layer 5 begins with: the document's two packets answer as told. -/
import Derived.Test.YtgiellpepnbpcaaDoorTocS
namespace Go.Proofs.YtgiellpepnbpcaaDoor
open Go.RowKit

theorem number_is (n : Nat) (hn : n < 12) (x y z : Int) (hc : isCfg x y z n) (w : World) (h : CfgAt w) :
    Calls Tryd.prog 12 #[.agg #[.int .i64 x, .int .i64 y, .int .i64 z]] w fun e w' => e = .returned (.tuple #[.int .i64 (n : Nat), .int .i64 0]) ∧ Below w.heap.size w w' := by
  refine (number_any x y z w h).mono ?_
  rintro e w' ⟨⟨m, err, rfl, h1⟩, hb⟩
  refine ⟨?_, hb⟩
  rcases h1 with ⟨rfl, hm, hcm, _⟩ | ⟨_, _, hno⟩
  · obtain ⟨a1, a2, a3⟩ := hc
    obtain ⟨c1, c2, c3⟩ := hcm
    obtain rfl := cfg_apart m hm n hn (by omega) (by omega) (by omega)
    rfl
  · exact absurd hc (hno n hn)

theorem number_no (x y z : Int) (hc : ∀ j, j < 12 → ¬ isCfg x y z j) (w : World) (h : CfgAt w) :
    Calls Tryd.prog 12 #[.agg #[.int .i64 x, .int .i64 y, .int .i64 z]] w fun e w' => e = .returned (.tuple #[.int .i64 0, .int .i64 1]) ∧ Below w.heap.size w w' := by
  refine (number_any x y z w h).mono ?_
  rintro e w' ⟨⟨m, err, rfl, h1⟩, hb⟩
  refine ⟨?_, hb⟩
  rcases h1 with ⟨_, hm, hcm, _⟩ | ⟨rfl, rfl, _⟩
  · exact absurd hcm (hc m hm)
  · rfl

theorem ParseAns.elim {B : Nat} {w : World} {bs : List Nat} {p : Pk} {e : Ending} (h : ParseAns B w bs e) (hp : parseN bs = some p) :
    ∃ a c, e = .returned (.tuple #[.agg #[.int .i64 (p.config : Nat), .int .i64 (p.ch : Nat), .slice a p.frames.length c, .int .i64 (p.pad : Nat)], .int .i64 0]) ∧ Frs B w (.slice a p.frames.length c) p.frames := by
  unfold ParseAns at h
  rw [hp] at h
  obtain ⟨v, he, hf⟩ := h
  obtain ⟨a, c, rfl⟩ := hf.form
  exact ⟨a, c, he, hf⟩
theorem ParseAns.elim_no {B : Nat} {w : World} {bs : List Nat} {e : Ending} (h : ParseAns B w bs e) (hp : parseN bs = none) :
    e = .returned (.tuple #[.agg #[.int .i64 0, .int .i64 0, .slice none 0 0, .int .i64 0], .int .i64 3]) := by
  unfold ParseAns at h
  rw [hp] at h
  exact h

theorem ob_lit (w : World) (cs : List Nat) {vs : Array Value} (hv : vs = (bvals cs).toArray) {k : Nat} (hk : cs.length = k) (h0 : k ≤ 1000) {B : Nat} (hB : B ≤ w.heap.size) : (w.alloc (.cells vs 5)).ownsRow B 5 1 (.slice (some ⟨w.heap.size, 0, none⟩) k k) k (bvals cs) := by
  subst hv
  refine ⟨by rw [bvals_len, hk, Nat.mul_one], .inr ⟨w.heap.size, k, _, rfl, hB, heap_alloc_new w _, Nat.le_refl _, by unfold maxLen; omega, by simp [bvals, hk], ?_⟩⟩
  rw [List.take_of_length_le]
  simp [bvals, hk]

theorem bs_lit (w : World) (cs : List Nat) {vs : Array Value} (hv : vs = (bvals cs).toArray) {k : Nat} (hk : cs.length = k) (h0 : k ≤ 1000) (hs : ∀ x ∈ cs, x < 256) {g : Nat} (hg : g = w.heap.size) : Bs (w.alloc (.cells vs 5)) (some ⟨g, 0, none⟩) k k cs := by
  subst hg
  exact (Ob.bs (ob_lit w cs hv hk h0 (Nat.zero_le _)) hs (by omega)).1

/-- Two frames of a byte each, written out. -/
theorem frames_two (w : World) {g : Nat} (hg : g = w.heap.size + 2) {g1 g2 : Nat} (h1 : g1 = w.heap.size) (h2 : g2 = w.heap.size + 1) :
    FramesAt (((w.alloc (.cells #[.int .u8 1] 5)).alloc (.cells #[.int .u8 2] 5)).alloc (.cells #[.slice (some ⟨g1, 0, none⟩) 1 1, .slice (some ⟨g2, 0, none⟩) 1 1] 29)) 0 (some ⟨g, 0, none⟩) [[1], [2]] := by
  subst hg; subst h1; subst h2
  have e2 : w.heap.size + 2 = ((w.alloc (.cells #[.int .u8 1] 5)).alloc (.cells #[.int .u8 2] 5)).heap.size := by simp
  have e1 : w.heap.size + 1 = (w.alloc (.cells #[.int .u8 1] 5)).heap.size := by simp
  have r1 := (bs_lit w [1] (vs := #[.int .u8 1]) rfl rfl (by decide) (by decide) rfl).row
  have r2 := (bs_lit (w.alloc (.cells #[.int .u8 1] 5)) [2] (vs := #[.int .u8 2]) rfl rfl (by decide) (by decide) rfl).row
  rw [← e1] at r2
  refine ⟨fun _ => ⟨w.heap.size + 2, 0, rfl, Nat.zero_le _, by simp, fun i hi => ?_⟩⟩
  have hc : ∀ j v, #[Value.slice (some ⟨w.heap.size, 0, none⟩) 1 1, Value.slice (some ⟨w.heap.size + 1, 0, none⟩) 1 1][j]? = some v → (((w.alloc (.cells #[.int .u8 1] 5)).alloc (.cells #[.int .u8 2] 5)).alloc (.cells #[.slice (some ⟨w.heap.size, 0, none⟩) 1 1, .slice (some ⟨w.heap.size + 1, 0, none⟩) 1 1] 29)).cell? ⟨w.heap.size + 2, 0 + j, none⟩ = some v := fun j v hv => by
    rw [e2, World.cell?_alloc_new, Nat.zero_add]
    exact hv
  match i, hi with
  | 0, _ => exact ⟨_, 1, hc 0 _ rfl, fun h => (by cases h), Nat.le_refl _, (r1.keep ((Below.refl _ _).alloc (Nat.le_refl _) _)).keep ((Below.refl _ _).alloc (Nat.le_refl _) _)⟩
  | 1, _ => exact ⟨_, 1, hc 1 _ rfl, fun h => (by cases h), Nat.le_refl _, r2.keep ((Below.refl _ _).alloc (Nat.le_refl _) _)⟩
  | n + 2, h => exact absurd h (by simp)

def pkA : Pk := ⟨9, 1, [[5]], 0⟩
def pkB : Pk := ⟨0, 1, [[1], [2]], 0⟩
theorem parse_A : parseN [72, 5] = some pkA := rfl
theorem pack_B : packN pkB = [1, 1, 2] := rfl
theorem good_A : GoodP pkA := ⟨by decide, by decide, by decide, by decide, by decide, by decide⟩
theorem good_B : GoodP pkB := ⟨by decide, by decide, by decide, by decide, by decide, by decide⟩

theorem str_plain {w : World} {B : Nat} {fa : Option Addr} {n fcap : Nat} {f : List Nat} (h : ByteRow w B fa f) (hn : f.length = n) (hnil : fa = none → fcap = 0) {s : ByteArray} (hs : strN f = s) :
    (convert 29 9 (.slice fa n fcap)).run Tryd.prog w = .ok (.string s) w := by
  subst hs
  exact str_of_row h hn hnil

set_option maxHeartbeats 2000000 in
theorem awake_any (w : World) (hc : CfgAt w) :
    Calls Tryd.prog 9 #[] w fun e w' => e = .returned (.bool true) ∧ Below w.heap.size w w' := by
  have HC : Hid (CfgAt w) := hc
  clear hc
  go_enter Tryd.func9, Tryd.ntmps9
  go_wp2_with (first
    | (go_at_call 10; go_loud (refine (parse_any _ 2 2 [72, 5] _ (bs_lit w [72, 5] rfl rfl (by decide) (by decide) rfl) (HC.out.keep ((Below.refl _ _).alloc (Nat.le_refl _) _))).mono ?_; rintro e w1 ⟨he, hb1⟩; have he2 : ∃ a c, e = .returned (.tuple #[.agg #[.int .i64 9, .int .i64 1, .slice a 1 c, .int .i64 0], .int .i64 0]) ∧ ∃ B, Frs B w1 (.slice a 1 c) [[5]] := (by obtain ⟨a, c, h1, h2⟩ := he.elim parse_A; exact ⟨a, c, h1, _, h2⟩); obtain ⟨a1, c1, rfl, hf1⟩ := he2; have hB := boxed hb1; have HF1 : Hid (∃ B, FramesAt w1 B a1 [[5]]) := (by obtain ⟨B, h⟩ := hf1; exact ⟨B, h.at_.2.1⟩); have hnew := four_new w1 (.int .i64 9) (.int .i64 1) (.slice a1 1 c1) (.int .i64 0) 25; clear he hb1 hf1))
    | (go_at_call 13; go_loud (have hB5 := ((((Below.refl w1.heap.size w1).alloc (Nat.le_refl _) (.cells #[.int .i64 9, .int .i64 1, .slice a1 1 c1, .int .i64 0] 25)).alloc (by simp) (.cells #[.int .u8 1] 5)).alloc (by simp <;> omega) (.cells #[.int .u8 2] 5)).alloc (by simp <;> omega) (.cells #[.slice (some ⟨w1.heap.size + 1, 0, none⟩) 1 1, .slice (some ⟨w1.heap.size + 1 + 1, 0, none⟩) 1 1] 29); have hB4 := hB.trans (hB5.mono hB.size); refine (pack_good 0 1 0 _ 2 2 [[1], [2]] 0 _ (HC.out.keep hB4) (frames_two (w1.alloc _) (by simp) (by simp) (by simp)) rfl (Nat.le_refl _) good_B).mono ?_; rintro e w2 ⟨⟨a2, m2, c2, rfl, ho2⟩, hb2⟩; have hP : Four w2 w1.heap.size 25 (.int .i64 9) (.int .i64 1) (.slice a1 1 c1) (.int .i64 0) := (((hnew.alloc _).alloc _).alloc _).keep hb2; obtain rfl : m2 = 3 := (by have := ho2.1; rw [Nat.mul_one] at this; exact this.symm); have HO2 : Hid (Bs w2 a2 3 c2 [1, 1, 2]) := (Ob.bs ho2 (by decide) (by decide)).1; replace HF1 : Hid (∃ B, FramesAt w2 B a1 [[5]]) := (by obtain ⟨B, h⟩ := HF1.out; exact ⟨B, (h.keep hB5).keep hb2⟩); replace hB := hB4.trans (hb2.mono hB4.size); clear hB4 hB5 hb2 ho2 hnew))
    | (go_at_call 11; go_loud (refine (of_good 9 (by decide) _ (HC.out.keep hB)).mono ?_; rintro e w3 ⟨he, hb3⟩; have he2 : e = .returned (.tuple #[.agg #[.int .i64 2, .int .i64 16000, .int .i64 20], .int .i64 0]) := he; subst he2; replace hP := hP.keep hb3; replace HO2 : Hid (Bs w3 a2 3 c2 [1, 1, 2]) := HO2.out.keep hb3; replace HF1 : Hid (∃ B, FramesAt w3 B a1 [[5]]) := (by obtain ⟨B, h⟩ := HF1.out; exact ⟨B, h.keep hb3⟩); replace hB := hB.trans (hb3.mono hB.size); clear hb3 he))
    | (go_at_call 12; go_loud (have hB4 := hB.alloc hB.size (.cells #[.int .i64 2, .int .i64 16000, .int .i64 20] 31); refine (number_is 9 (by decide) 2 16000 20 ⟨by decide, by decide, by decide⟩ _ (HC.out.keep hB4)).mono ?_; rintro e w4 ⟨he, hb4⟩; have he2 : e = .returned (.tuple #[.int .i64 9, .int .i64 0]) := he; subst he2; have hcf : ∀ i v, #[Value.int .i64 2, Value.int .i64 16000, Value.int .i64 20][i]? = some v → w4.cell? ⟨w3.heap.size, i, none⟩ = some v := (fun i v hv => (hb4.cell (p := ⟨w3.heap.size, i, none⟩) (by simp)).trans ((by rw [World.cell?_alloc_new]; exact hv))); have k0 := hcf 0 _ rfl; have k1 := hcf 1 _ rfl; have k2 := hcf 2 _ rfl; replace hP := (hP.alloc _).keep hb4; obtain ⟨p0, p1, p2, p3⟩ := hP.cells; obtain ⟨B1, hf4⟩ := HF1.out; obtain ⟨b, off, fa, fcap, ea, _, hc4, hnil, _, hrow⟩ := ((hf4.keep ((Below.refl _ _).alloc (Nat.le_refl _) _)).keep hb4).elem (i := 0) (by decide); subst ea; have hc5 : w4.cell? ⟨b, off, none⟩ = some (.slice fa 1 fcap) := hc4; have hs1 := str_plain hrow (n := 1) rfl (fun h => (hnil h).2) (s := ⟨#[5]⟩) rfl; have hO4 := (HO2.out.keep ((Below.refl _ _).alloc (Nat.le_refl _) _)).keep hb4; have hs2 := str_plain hO4.row (n := 3) rfl (fun h => (hO4.nil h).2) (s := ⟨#[1, 1, 2]⟩) rfl; have HF4 : Hid (FramesAt w4 B1 (some ⟨b, off, none⟩) [[5]]) := (hf4.keep ((Below.refl _ _).alloc (Nat.le_refl _) _)).keep hb4; replace hB := hB4.trans (hb4.mono hB4.size); clear hB4 hb4 hcf hf4 hc4 hnil hrow hO4 he))
    | (go_at_call 14; go_loud (refine (good_any 9 1 0 _ 1 _ [[5]] B1 _ (HC.out.keep hB) HF4.out rfl (by decide)).mono ?_; rintro e w5 ⟨⟨bb, rfl, hb⟩, hb5⟩; obtain rfl : bb = true := hb.2 (goodI_of good_A); replace hB := hB.trans (hb5.mono hB.size); clear hb hb5)))
  go_ret
  exact ⟨rfl, hB⟩

end Go.Proofs.YtgiellpepnbpcaaDoor
