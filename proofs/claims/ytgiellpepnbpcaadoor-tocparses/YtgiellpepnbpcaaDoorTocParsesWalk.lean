/- The law of any bytes, cut as the document says or refused, answers true. -/
import Derived.Test.YtgiellpepnbpcaaDoorTocZr
import Derived.Test.YtgiellpepnbpcaaDoorTocV
namespace Go.Proofs.YtgiellpepnbpcaaDoor
open Go.RowKit

theorem RAns.elim2 {B : Nat} {w : World} {bs : List Nat} {p : Pk} {e : Ending} (h : RAns B w bs e) (hp : parseN bs = some p) : ∃ a c, e = .returned (.tuple #[.agg #[.int .i64 (p.config : Nat), .int .i64 (p.ch : Nat), .slice a p.frames.length c, .int .i64 (p.pad : Nat)], .bool true]) ∧ Frs B w (.slice a p.frames.length c) p.frames := by
  obtain ⟨v, rfl, hf⟩ := h.elim hp
  obtain ⟨a, c, rfl⟩ := hf.form
  exact ⟨a, c, rfl, hf⟩
theorem no_frames (w : World) (a : Option Addr) : FramesAt w 0 a [] := ⟨fun h => absurd h (by decide)⟩

set_option maxHeartbeats 4000000 in
theorem parses_none (a : Option Addr) (len cap : Nat) (bs : List Nat) (w : World) (hbs : Bs w a len cap bs) (hp : parseN bs = none) (hc : CfgAt w) :
    Calls Tryd.prog 4 #[.slice a len cap] w fun e w' => e = .returned (.bool true) ∧ Below w.heap.size w w' := by
  have HC : Hid (CfgAt w) := hc
  have HBS : Hid (Bs w a len cap bs) := hbs
  have HP : Hid (parseN bs = none) := hp
  clear hc hbs hp
  go_enter Tryd.func4, Tryd.ntmps4
  go_wp2_with (first
    | (go_at_call 9; refine (awake_any _ HC.out).mono ?_; rintro e w1 ⟨rfl, hB⟩)
    | (at_builtin; go_loud (refine wpList_copy_bytes (w := w1) a len cap bs (HBS.out.keep hB) rfl _ _ rfl _ rfl rfl rfl ?_; intro a2 c2 w2 ho2 hb2; have HB2 : Hid (Bs w2 a2 len c2 bs) := (Ob.bs ho2 HBS.out.row.small HBS.out.size).1; replace hB := hB.trans (hb2.mono hB.size); clear ho2 hb2))
    | (go_at_call 10; go_loud (refine (parse_any _ _ _ bs _ HB2.out (HC.out.keep hB)).mono ?_; rintro e w3 ⟨he, hb3⟩; obtain rfl := he.elim_no HP.out; have hnew := four_new w3 (.int .i64 0) (.int .i64 0) (.slice none 0 0) (.int .i64 0) 25; replace hB := hB.trans (hb3.mono hB.size); clear he hb3))
    | (go_at_call 15; go_loud (have hA := (Below.refl w3.heap.size w3).alloc (Nat.le_refl _) (.cells #[.int .i64 0, .int .i64 0, .slice none 0 0, .int .i64 0] 25); have hB4 := hB.trans (hA.mono hB.size); refine (rparse_any a len cap bs _ (HBS.out.keep hB4)).mono ?_; rintro e w4 ⟨he, hb4⟩; obtain rfl := he.elim_no HP.out; have hP := hnew.keep hb4; obtain ⟨p0, p1, p2, p3⟩ := hP.cells; obtain ⟨s0, s1, s2, s3⟩ := hP.cellsA; replace hB := hB4.trans (hb4.mono hB4.size); clear he hb4 hB4 hA hnew))
    | (go_at_call 16; go_loud (refine (is_same 0 0 0 none none 0 0 0 [] 0 0 _ (no_frames _ _) (no_frames _ _) rfl (by omega)).mono ?_; rintro e w5 ⟨rfl, hb5⟩; replace hB := (hB.alloc hB.size _).trans (hb5.mono (by simp; have := hB.size; omega)); clear hb5)))
  go_ret
  exact ⟨rfl, hB⟩

set_option maxHeartbeats 4000000 in
theorem parses_some (a : Option Addr) (len cap : Nat) (bs : List Nat) (w : World) (hbs : Bs w a len cap bs) (k ch pad : Nat) (fs : List (List Nat)) (hp : parseN bs = some ⟨k, ch, fs, pad⟩) (hc : CfgAt w) :
    Calls Tryd.prog 4 #[.slice a len cap] w fun e w' => e = .returned (.bool true) ∧ Below w.heap.size w w' := by
  have HC : Hid (CfgAt w) := hc
  have HBS : Hid (Bs w a len cap bs) := hbs
  have HP : Hid (parseN bs = some ⟨k, ch, fs, pad⟩) := hp
  obtain ⟨n, HN⟩ : ∃ n, Hid (fs.length = n) := ⟨_, rfl⟩
  have hn12 : n ≤ 12 := by
    obtain ⟨_, _, _, h1, _⟩ := parse_is hbs.row.small hp
    have h2 := (msN_in k).1
    have h3 : fs.length * 10 ≤ fs.length * msN k := Nat.mul_le_mul_left _ h2
    have h4 : fs.length * msN k ≤ 120 := h1
    have := HN.out
    omega
  clear hc hbs hp
  go_enter Tryd.func4, Tryd.ntmps4
  go_wp2_with (first
    | (go_at_call 9; refine (awake_any _ HC.out).mono ?_; rintro e w1 ⟨rfl, hB⟩)
    | (at_builtin; go_loud (refine wpList_copy_bytes (w := w1) a len cap bs (HBS.out.keep hB) rfl _ _ rfl _ rfl rfl rfl ?_; intro a2 c2 w2 ho2 hb2; have HB2 : Hid (Bs w2 a2 len c2 bs) := (Ob.bs ho2 HBS.out.row.small HBS.out.size).1; replace hB := hB.trans (hb2.mono hB.size); clear ho2 hb2))
    | (go_at_call 10; go_loud (refine (parse_any _ _ _ bs _ HB2.out (HC.out.keep hB)).mono ?_; rintro e w3 ⟨he, hb3⟩; obtain ⟨a3, c3, rfl, hf3⟩ := he.elim HP.out; have hnew := four_new w3 (.int .i64 (k : Nat)) (.int .i64 (ch : Nat)) (.slice a3 fs.length c3) (.int .i64 (pad : Nat)) 25; have HF : Hid (∃ B, FramesAt w3 B a3 fs) := ⟨_, hf3.at_.2.1⟩; rw [HN.out] at hnew ⊢; replace hB := hB.trans (hb3.mono hB.size); clear he hb3 hf3))
    | (go_at_call 15; go_loud (obtain ⟨B3, hf3⟩ := HF.out; have hA := (Below.refl w3.heap.size w3).alloc (Nat.le_refl _) (.cells #[.int .i64 (k : Nat), .int .i64 (ch : Nat), .slice a3 n c3, .int .i64 (pad : Nat)] 25); have hB4 := hB.trans (hA.mono hB.size); refine (rparse_any a len cap bs _ (HBS.out.keep hB4)).mono ?_; rintro e w4 ⟨he, hb4⟩; obtain ⟨a4, c4, rfl, hf4⟩ := he.elim2 HP.out; have HF4 : Hid (∃ B, FramesAt w4 B a4 fs) := ⟨_, hf4.at_.2.1⟩; have HF3 : Hid (FramesAt w4 B3 a3 fs) := (hf3.keep hA).keep hb4; have hP := hnew.keep hb4; obtain ⟨p0, p1, p2, p3⟩ := hP.cells; obtain ⟨s0, s1, s2, s3⟩ := hP.cellsA; rw [HN.out]; replace hB := hB4.trans (hb4.mono hB4.size); clear he hb4 hB4 hA hnew hf3 hf4 HF))
    | (go_at_call 16; go_loud (obtain ⟨B4, hf5⟩ := HF4.out; refine (is_same _ _ _ _ _ n _ _ fs B3 B4 _ (HF3.out.keep ((Below.refl _ _).alloc (Nat.le_refl _) _)) (hf5.keep ((Below.refl _ _).alloc (Nat.le_refl _) _)) HN.out (by omega)).mono ?_; rintro e w5 ⟨rfl, hb5⟩; replace hB := (hB.alloc hB.size _).trans (hb5.mono (by simp; have := hB.size; omega)); clear hb5)))
  go_ret
  exact ⟨rfl, hB⟩

theorem tocParses.walk (a : Option Addr) (len cap : Nat) (z : List Int) (w : World) (hz : IsRow .u8 w a len cap z) (hs : cap * 1 ≤ 140737488351232) (hc : CfgAt w) :
    Calls Tryd.prog 4 #[.slice a len cap] w fun e w' => e = .returned (.bool true) ∧ Below w.heap.size w w' := by
  obtain ⟨bs, hbs⟩ := bs_of_row hz hs
  cases hp : parseN bs with
  | none => exact parses_none a len cap bs w hbs hp hc
  | some p =>
    obtain ⟨k, ch, fs, pad⟩ := p
    exact parses_some a len cap bs w hbs k ch pad fs hp hc

end Go.Proofs.YtgiellpepnbpcaaDoor
