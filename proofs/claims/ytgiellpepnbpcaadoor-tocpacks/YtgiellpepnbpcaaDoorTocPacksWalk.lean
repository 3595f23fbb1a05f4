/- The law of packets put together answers true: those that may be, and those that are refused. -/
import Derived.Test.YtgiellpepnbpcaaDoorTocXg
import Derived.Test.YtgiellpepnbpcaaDoorTocV
namespace Go.Proofs.YtgiellpepnbpcaaDoor
open Go.RowKit

theorem Says.on {p : Prop} {e : Ending} (h : Says p e) (hp : p) : e = .returned (.bool true) := by
  obtain ⟨b, rfl, hb⟩ := h
  rw [hb.2 hp]
theorem Says.off {p : Prop} {e : Ending} (h : Says p e) (hp : ¬ p) : e = .returned (.bool false) := by
  obtain ⟨b, rfl, hb⟩ := h
  cases b with
  | false => rfl
  | true => exact absurd (hb.1 rfl) hp

/-- Two blocks of four cells each, read cell by cell. -/
def Eight (W : World) (g1 g2 : Nat) (v0 v1 v2 v3 u0 u1 u2 u3 : Value) : Prop :=
  W.cell? ⟨g1, 0, none⟩ = some v0 ∧ W.cell? ⟨g1, 1, none⟩ = some v1 ∧ W.cell? ⟨g1, 2, none⟩ = some v2 ∧ W.cell? ⟨g1, 3, none⟩ = some v3 ∧
  W.cell? ⟨g2, 0, none⟩ = some u0 ∧ W.cell? ⟨g2, 1, none⟩ = some u1 ∧ W.cell? ⟨g2, 2, none⟩ = some u2 ∧ W.cell? ⟨g2, 3, none⟩ = some u3
theorem eight_of {W : World} {g1 g2 : Nat} {t1 t2 : TypeId} {v0 v1 v2 v3 u0 u1 u2 u3 : Value} (h1 : Four W g1 t1 v0 v1 v2 v3) (h2 : Four W g2 t2 u0 u1 u2 u3) : Eight W g1 g2 v0 v1 v2 v3 u0 u1 u2 u3 := by
  obtain ⟨p0, p1, p2, p3⟩ := h1.cells
  obtain ⟨q0, q1, q2, q3⟩ := h2.cells
  exact ⟨p0, p1, p2, p3, q0, q1, q2, q3⟩

set_option maxHeartbeats 4000000 in
theorem packs_bad (c ch pad : Int) (a : Option Addr) (len cap : Nat) (fs : List (List Nat)) (w : World) (hF : FramesAt w 0 a fs) (hn : fs.length = len) (hs : len ≤ 9223372036854775807) (hg : ¬ goodI c ch pad fs) (hc : CfgAt w) :
    Calls Tryd.prog 5 #[.agg #[.int .i64 c, .int .i64 ch, .slice a len cap, .int .i64 pad]] w fun e w' => e = .returned (.bool true) ∧ Below w.heap.size w w' := by
  have HC : Hid (CfgAt w) := hc
  have HF : Hid (FramesAt w 0 a fs) := hF
  have HN : Hid (fs.length = len) := hn
  have HG : Hid (¬ goodI c ch pad fs) := hg
  clear hc hF hn hg
  go_enter Tryd.func5, Tryd.ntmps5
  go_wp2_with (go_at_call 9; go_loud (refine (awake_any _ (HC.out.keep ((Below.refl _ _).alloc (Nat.le_refl _) _))).mono ?_; rintro e w1 ⟨rfl, hb1⟩; have hR := (four_new w (.int .i64 c) (.int .i64 ch) (.slice a len cap) (.int .i64 pad) 25).keep hb1; obtain ⟨p0, p1, p2, p3⟩ := hR.cells; obtain ⟨s0, s1, s2, s3⟩ := hR.cellsA; have hB := boxed hb1; have hz : w.heap.size < w1.heap.size := hR.lt; clear hb1))
  have hK := four_new w1 (.int .i64 c) (.int .i64 ch) (.slice a len cap) (.int .i64 pad) 39
  have hQ := hR.alloc (.cells #[.int .i64 c, .int .i64 ch, .slice a len cap, .int .i64 pad] 39)
  have hB2 := hB.alloc hB.size (.cells #[.int .i64 c, .int .i64 ch, .slice a len cap, .int .i64 pad] 39)
  clear hR hB p0 p1 p2 p3 s0 s1 s2 s3 hz
  generalize hW5 : w1.alloc (.cells #[.int .i64 c, .int .i64 ch, .slice a len cap, .int .i64 pad] 39) = w5 at *
  generalize hg : w1.heap.size = g at *
  clear hW5 hg
  go_wp2_with (go_at_call 13; go_loud (refine (pack_bad c ch pad a len cap fs 0 _ (HC.out.keep hB2) (HF.out.keep hB2) HN.out hs HG.out).mono ?_; rintro e w6 ⟨rfl, hb6⟩; have hP := hQ.keep hb6; have hX := hK.keep hb6; have hB := hB2.trans (hb6.mono hB2.size); clear hb6))
  have HS : Hid (∀ W, Below w6.heap.size w6 W → W.cell? ⟨w.heap.size, 0, none⟩ = some (.int .i64 c) ∧ W.cell? ⟨w.heap.size, 1, none⟩ = some (.int .i64 ch) ∧ W.cell? ⟨w.heap.size, 2, none⟩ = some (.slice a len cap) ∧ W.cell? ⟨w.heap.size, 3, none⟩ = some (.int .i64 pad) ∧ W.cell? ⟨g, 0, none⟩ = some (.int .i64 c) ∧ W.cell? ⟨g, 1, none⟩ = some (.int .i64 ch) ∧ W.cell? ⟨g, 2, none⟩ = some (.slice a len cap) ∧ W.cell? ⟨g, 3, none⟩ = some (.int .i64 pad)) := fun W hW => eight_of (hP.keep hW) (hX.keep hW)
  have hb := (Below.refl w6.heap.size w6).drew
  have hS0 := HS.out _ hb
  clear hK hQ hB2 hP hX
  go_region_held3 (fun W => W.cell? ⟨w.heap.size, 0, none⟩ = some (.int .i64 c) ∧ W.cell? ⟨w.heap.size, 1, none⟩ = some (.int .i64 ch) ∧ W.cell? ⟨w.heap.size, 2, none⟩ = some (.slice a len cap) ∧ W.cell? ⟨w.heap.size, 3, none⟩ = some (.int .i64 pad) ∧ W.cell? ⟨g, 0, none⟩ = some (.int .i64 c) ∧ W.cell? ⟨g, 1, none⟩ = some (.int .i64 ch) ∧ W.cell? ⟨g, 2, none⟩ = some (.slice a len cap) ∧ W.cell? ⟨g, 3, none⟩ = some (.int .i64 pad)) (assumption) (first
    | (go_at_call 14; go_loud (refine (good_any c ch pad a len cap fs 0 _ (HC.out.keep (hB.trans (hb.mono hB.size))) (HF.out.keep (hB.trans (hb.mono hB.size))) HN.out hs).mono ?_; rintro e w7 ⟨hsay, hb7⟩; obtain rfl := hsay.off HG.out; replace hb := hb.trans (hb7.mono hb.size); clear hb7 hsay; have hS1 := HS.out _ hb))
    | (go_at_call 17; go_loud (refine (rgood_any c ch pad a len cap fs 0 _ (HF.out.keep (hB.trans (hb.mono hB.size))) HN.out hs).mono ?_; rintro e w8 ⟨hsay, hb8⟩; obtain rfl := hsay.off HG.out; replace hb := hb.trans (hb8.mono hb.size); clear hb8 hsay; have hS2 := HS.out _ hb)))
  all_goals
    obtain ⟨p0, p1, p2, p3, q0, q1, q2, q3⟩ := HS.out _ hb
    have hB3 := hB.trans (hb.mono hB.size)
    go_wp2_with (go_at_call 17; go_loud (refine (rgood_any c ch pad a len cap fs 0 _ (HF.out.keep hB3) HN.out hs).mono ?_; rintro e w9 ⟨hsay, hb9⟩; obtain rfl := hsay.off HG.out; replace hB3 := hB3.trans (hb9.mono hB3.size); clear hb9 hsay))
    go_ret
    exact ⟨rfl, hB3⟩

set_option maxHeartbeats 4000000 in
theorem packs_good (k ch pad : Nat) (a : Option Addr) (len cap : Nat) (fs : List (List Nat)) (w : World) (hF : FramesAt w 0 a fs) (hn : fs.length = len) (hcap : len ≤ cap) (hg : GoodP ⟨k, ch, fs, pad⟩) (hsm : ∀ f ∈ fs, ∀ y ∈ f, y < 256) (hc : CfgAt w) :
    Calls Tryd.prog 5 #[.agg #[.int .i64 (k : Nat), .int .i64 (ch : Nat), .slice a len cap, .int .i64 (pad : Nat)]] w fun e w' => e = .returned (.bool true) ∧ Below w.heap.size w w' := by
  have hlen : len ≤ 12 := by have := hg.few; simp only at this; omega
  have HC : Hid (CfgAt w) := hc
  have HF : Hid (FramesAt w 0 a fs) := hF
  have HN : Hid (fs.length = len) := hn
  have HG : Hid (GoodP ⟨k, ch, fs, pad⟩) := hg
  have HSM : Hid (∀ x ∈ packN ⟨k, ch, fs, pad⟩, x < 256) := packN_small hg hsm
  have HPM : Hid ((packN ⟨k, ch, fs, pad⟩).length ≤ 100000) := packN_few hg
  obtain ⟨S, HSS⟩ : ∃ s, Hid (strN (packN ⟨k, ch, fs, pad⟩) = s) := ⟨_, rfl⟩
  have hs : len ≤ 9223372036854775807 := by omega
  clear hc hF hn hg hsm
  go_enter Tryd.func5, Tryd.ntmps5
  go_wp2_with (go_at_call 9; go_loud (refine (awake_any _ (HC.out.keep ((Below.refl _ _).alloc (Nat.le_refl _) _))).mono ?_; rintro e w1 ⟨rfl, hb1⟩; have hR := (four_new w (.int .i64 (k : Nat)) (.int .i64 (ch : Nat)) (.slice a len cap) (.int .i64 (pad : Nat)) 25).keep hb1; obtain ⟨p0, p1, p2, p3⟩ := hR.cells; obtain ⟨s0, s1, s2, s3⟩ := hR.cellsA; have hB := boxed hb1; have hz : w.heap.size < w1.heap.size := hR.lt; clear hb1))
  have hK := four_new w1 (.int .i64 (k : Nat)) (.int .i64 (ch : Nat)) (.slice a len cap) (.int .i64 (pad : Nat)) 39
  have hQ := hR.alloc (.cells #[.int .i64 (k : Nat), .int .i64 (ch : Nat), .slice a len cap, .int .i64 (pad : Nat)] 39)
  have hB2 := hB.alloc hB.size (.cells #[.int .i64 (k : Nat), .int .i64 (ch : Nat), .slice a len cap, .int .i64 (pad : Nat)] 39)
  clear hR hB p0 p1 p2 p3 s0 s1 s2 s3 hz
  generalize hW5 : w1.alloc (.cells #[.int .i64 (k : Nat), .int .i64 (ch : Nat), .slice a len cap, .int .i64 (pad : Nat)] 39) = w5 at *
  generalize hg : w1.heap.size = g at *
  clear hW5 hg
  go_wp2_with (go_at_call 13; go_loud (refine (pack_good k ch pad a len cap fs 0 _ (HC.out.keep hB2) (HF.out.keep hB2) HN.out hcap HG.out).mono ?_; rintro e w6 ⟨⟨a3, m3, c3, rfl, ho3⟩, hb6⟩; have HL3 : Hid (m3 = (packN ⟨k, ch, fs, pad⟩).length) := owned_len ho3; have HO3 : Hid (Bs w6 a3 m3 c3 (packN ⟨k, ch, fs, pad⟩)) := (Ob.bs ho3 HSM.out (by have := HPM.out; have h2 := HL3.out; omega)).1; have hP := hQ.keep hb6; have hX := hK.keep hb6; have hB := hB2.trans (hb6.mono hB2.size); clear hb6 ho3))
  have HS : Hid (∀ W, Below w6.heap.size w6 W → W.cell? ⟨w.heap.size, 0, none⟩ = some (.int .i64 (k : Nat)) ∧ W.cell? ⟨w.heap.size, 1, none⟩ = some (.int .i64 (ch : Nat)) ∧ W.cell? ⟨w.heap.size, 2, none⟩ = some (.slice a len cap) ∧ W.cell? ⟨w.heap.size, 3, none⟩ = some (.int .i64 (pad : Nat)) ∧ W.cell? ⟨g, 0, none⟩ = some (.int .i64 (k : Nat)) ∧ W.cell? ⟨g, 1, none⟩ = some (.int .i64 (ch : Nat)) ∧ W.cell? ⟨g, 2, none⟩ = some (.slice a len cap) ∧ W.cell? ⟨g, 3, none⟩ = some (.int .i64 (pad : Nat))) := fun W hW => eight_of (hP.keep hW) (hX.keep hW)
  have HX : Hid (Four w6 g 39 (.int .i64 (k : Nat)) (.int .i64 (ch : Nat)) (.slice a len cap) (.int .i64 (pad : Nat))) := hX
  have hb := (Below.refl w6.heap.size w6).drew
  have hS0 := HS.out _ hb
  clear hK hQ hB2 hP hX
  go_region_held3 (fun W => W.cell? ⟨w.heap.size, 0, none⟩ = some (.int .i64 (k : Nat)) ∧ W.cell? ⟨w.heap.size, 1, none⟩ = some (.int .i64 (ch : Nat)) ∧ W.cell? ⟨w.heap.size, 2, none⟩ = some (.slice a len cap) ∧ W.cell? ⟨w.heap.size, 3, none⟩ = some (.int .i64 (pad : Nat)) ∧ W.cell? ⟨g, 0, none⟩ = some (.int .i64 (k : Nat)) ∧ W.cell? ⟨g, 1, none⟩ = some (.int .i64 (ch : Nat)) ∧ W.cell? ⟨g, 2, none⟩ = some (.slice a len cap) ∧ W.cell? ⟨g, 3, none⟩ = some (.int .i64 (pad : Nat))) (assumption) (first
    | (go_at_call 14; go_loud (refine (good_any k ch pad a len cap fs 0 _ (HC.out.keep (hB.trans (hb.mono hB.size))) (HF.out.keep (hB.trans (hb.mono hB.size))) HN.out hs).mono ?_; rintro e w7 ⟨hsay, hb7⟩; obtain rfl := hsay.on (goodI_of HG.out); replace hb := hb.trans (hb7.mono hb.size); clear hb7 hsay; have hS1 := HS.out _ hb))
    | (go_at_call 17; go_loud (refine (rgood_any k ch pad a len cap fs 0 _ (HF.out.keep (hB.trans (hb.mono hB.size))) HN.out hs).mono ?_; rintro e w8 ⟨hsay, hb8⟩; obtain rfl := hsay.on (goodI_of HG.out); replace hb := hb.trans (hb8.mono hb.size); clear hb8 hsay; have hS2 := HS.out _ hb)))
  all_goals
    obtain ⟨p0, p1, p2, p3, q0, q1, q2, q3⟩ := HS.out _ hb
    have hB3 := hB.trans (hb.mono hB.size)
    replace HO3 : Hid (Bs _ a3 m3 c3 (packN ⟨k, ch, fs, pad⟩)) := HO3.out.keep hb
    replace HX : Hid (Four _ g 39 (.int .i64 (k : Nat)) (.int .i64 (ch : Nat)) (.slice a len cap) (.int .i64 (pad : Nat))) := HX.out.keep hb
    go_wp2_with (first
      | (go_at_call 17; go_loud (refine (rgood_any k ch pad a len cap fs 0 _ (HF.out.keep hB3) HN.out hs).mono ?_; rintro e w9 ⟨hsay, hb9⟩; obtain rfl := hsay.on (goodI_of HG.out); replace HO3 : Hid (Bs w9 a3 m3 c3 (packN ⟨k, ch, fs, pad⟩)) := HO3.out.keep hb9; replace HX : Hid (Four w9 g 39 (.int .i64 (k : Nat)) (.int .i64 (ch : Nat)) (.slice a len cap) (.int .i64 (pad : Nat))) := HX.out.keep hb9; replace hB3 := hB3.trans (hb9.mono hB3.size); clear hb9 hsay))
      | (go_at_call 10; go_loud (refine (parse_any _ _ _ _ _ HO3.out (HC.out.keep hB3)).mono ?_; rintro e w10 ⟨he, hb10⟩; obtain ⟨a4, c4, rfl, hf4⟩ := he.elim (parse_pack HG.out); have HF4 : Hid (∃ B, FramesAt w10 B a4 fs) := ⟨_, hf4.at_.2.1⟩; replace HO3 : Hid (Bs w10 a3 m3 c3 (packN ⟨k, ch, fs, pad⟩)) := HO3.out.keep hb10; replace HX : Hid (Four w10 g 39 (.int .i64 (k : Nat)) (.int .i64 (ch : Nat)) (.slice a len cap) (.int .i64 (pad : Nat))) := HX.out.keep hb10; rw [HN.out]; replace hB3 := hB3.trans (hb10.mono hB3.size); clear he hb10 hf4)))
    have hY := four_new w10 (.int .i64 (k : Nat)) (.int .i64 (ch : Nat)) (.slice a4 len c4) (.int .i64 (pad : Nat)) 25
    have hX := HX.out.alloc (.cells #[.int .i64 (k : Nat), .int .i64 (ch : Nat), .slice a4 len c4, .int .i64 (pad : Nat)] 25)
    have hA := (Below.refl w10.heap.size w10).alloc (Nat.le_refl _) (.cells #[.int .i64 (k : Nat), .int .i64 (ch : Nat), .slice a4 len c4, .int .i64 (pad : Nat)] 25)
    have hB4 := hB3.trans (hA.mono hB3.size)
    obtain ⟨B4, hf5⟩ := HF4.out
    have HF5 := hf5.keep hA
    have HO5 := HO3.out.keep hA
    clear HX hB3 HF4 hf5 HO3 hA hS0 hS1 hS2 HS p0 p1 p2 p3 q0 q1 q2 q3 hb hB
    generalize hW5 : w10.alloc (.cells #[.int .i64 (k : Nat), .int .i64 (ch : Nat), .slice a4 len c4, .int .i64 (pad : Nat)] 25) = w11 at *
    generalize hg : w10.heap.size = g4 at *
    clear hW5 hg
    have HFR4 : Hid (FramesAt w11 B4 a4 fs) := HF5
    have HS : Hid (∀ W, Below w11.heap.size w11 W → (W.cell? ⟨g4, 0, none⟩ = some (.int .i64 (k : Nat)) ∧ W.cell? ⟨g4, 1, none⟩ = some (.int .i64 (ch : Nat)) ∧ W.cell? ⟨g4, 2, none⟩ = some (.slice a4 len c4) ∧ W.cell? ⟨g4, 3, none⟩ = some (.int .i64 (pad : Nat)) ∧ W.cell? ⟨g, 0, none⟩ = some (.int .i64 (k : Nat)) ∧ W.cell? ⟨g, 1, none⟩ = some (.int .i64 (ch : Nat)) ∧ W.cell? ⟨g, 2, none⟩ = some (.slice a len cap) ∧ W.cell? ⟨g, 3, none⟩ = some (.int .i64 (pad : Nat))) ∧ (convert 29 9 (.slice a3 m3 c3)).run Tryd.prog W = .ok (.string S) W) := fun W hW => ⟨eight_of (hY.keep hW) (hX.keep hW), str_plain (HO5.keep hW).row HL3.out.symm (fun h => (HO5.nil h).2) HSS.out⟩
    have hb := (Below.refl w11.heap.size w11).drew
    have hS0 := (HS.out _ hb).1
    have hC0 := (HS.out _ hb).2
    clear hY hX HF5 HO5
    go_region_held (fun W => W.cell? ⟨g4, 0, none⟩ = some (.int .i64 (k : Nat)) ∧ W.cell? ⟨g4, 1, none⟩ = some (.int .i64 (ch : Nat)) ∧ W.cell? ⟨g4, 2, none⟩ = some (.slice a4 len c4) ∧ W.cell? ⟨g4, 3, none⟩ = some (.int .i64 (pad : Nat)) ∧ W.cell? ⟨g, 0, none⟩ = some (.int .i64 (k : Nat)) ∧ W.cell? ⟨g, 1, none⟩ = some (.int .i64 (ch : Nat)) ∧ W.cell? ⟨g, 2, none⟩ = some (.slice a len cap) ∧ W.cell? ⟨g, 3, none⟩ = some (.int .i64 (pad : Nat))) (assumption) (first
      | (go_at_call 18; go_loud (refine (rpack_good k ch pad a len cap fs 0 _ (HF.out.keep (hB4.trans (hb.mono hB4.size))) HN.out HG.out).mono ?_; rintro e w12 ⟨⟨a8, m8, c8, rfl, ho8⟩, hb8⟩; have hbs8 := (Ob.bs ho8 HSM.out (by have := HPM.out; have h2 := owned_len ho8; omega)).1; have hC8 := str_plain hbs8.row (owned_len ho8).symm (fun h => (hbs8.nil h).2) HSS.out; replace hb := hb.trans (hb8.mono hb.size); clear hb8 ho8 hbs8; have hS1 := (HS.out _ hb).1; have hC1 := (HS.out _ hb).2))
      | (go_at_call 16; go_loud (refine (is_same _ _ _ _ _ len _ _ fs B4 0 _ (HFR4.out.keep hb) (HF.out.keep (hB4.trans (hb.mono hB4.size))) HN.out (by omega)).mono ?_; rintro e w13 ⟨rfl, hb9⟩; replace hb := hb.trans (hb9.mono hb.size); clear hb9; have hS2 := (HS.out _ hb).1)))
    all_goals
      have hB5 := hB4.trans (hb.mono hB4.size)
      go_wp2
      go_ret
      exact ⟨rfl, hB5⟩

theorem tocPacks.walk (c ch pad : Int) (a : Option Addr) (len cap : Nat) (vs : Nat → FrV) (w : World) (_ : (Lit.int .i64 c).wf = true) (_ : (Lit.int .i64 ch).wf = true) (_ : (Lit.int .i64 pad).wf = true) (hv : RowsAt w a len cap vs) (hc : CfgAt w) :
    Calls Tryd.prog 5 #[.agg #[.int .i64 c, .int .i64 ch, .slice a len cap, .int .i64 pad]] w fun e w' => e = .returned (.bool true) ∧ Below w.heap.size w w' := by
  obtain ⟨hF, hn, _, hcap, hmax⟩ := frames_in hv
  unfold maxLen at hmax
  by_cases hg : goodI c ch pad (framesOf len vs)
  · obtain ⟨k, h', p, rfl, rfl, rfl, hgp⟩ := goodP_of hg
    exact packs_good k h' p a len cap _ w hF hn hcap hgp (frames_small hF) hc
  · exact packs_bad c ch pad a len cap _ w hF hn (by omega) hg hc

end Go.Proofs.YtgiellpepnbpcaaDoor
