/- The law of packets put together again answers true. -/
import Derived.Test.YtgiellpepnbpcaaDoorTocV
namespace Go.Proofs.YtgiellpepnbpcaaDoor
open Go.RowKit

set_option maxHeartbeats 2000000 in
theorem tocRepacks.walk (a : Option Addr) (len cap : Nat) (z : List Int) (w : World) (hz : IsRow .u8 w a len cap z) (hs : cap * 1 ≤ 140737488351232) (hc : CfgAt w) :
    Calls Tryd.prog 7 #[.slice a len cap] w fun e w' => e = .returned (.bool true) ∧ Below w.heap.size w w' := by
  obtain ⟨bs, hbs⟩ := bs_of_row hz hs
  have HC : Hid (CfgAt w) := hc
  have HBS : Hid (Bs w a len cap bs) := hbs
  have hlen := hbs.size
  clear hz hs hc hbs
  cases hp : parseN bs with
  | none =>
    have HP : Hid (parseN bs = none) := hp
    clear hp
    go_enter Tryd.func7, Tryd.ntmps7
    go_wp2_with (first
      | (go_at_call 9; refine (awake_any _ HC.out).mono ?_; rintro e w1 ⟨rfl, hB⟩)
      | (go_at_call 10; go_loud (refine (parse_any _ _ _ bs _ (HBS.out.keep hB) (HC.out.keep hB)).mono ?_; rintro e w2 ⟨he, hb2⟩; obtain rfl := he.elim_no HP.out; replace hB := hB.trans (hb2.mono hB.size); clear he hb2)))
    go_ret
    exact ⟨rfl, hB.alloc hB.size _⟩
  | some p =>
    obtain ⟨k, ch, fs, pad⟩ := p
    have HP : Hid (parseN bs = some ⟨k, ch, fs, pad⟩) := hp
    obtain ⟨hg, _, _, _, _, _, hle⟩ := parse_is HBS.out.row.small hp
    have HG : Hid (pad ≤ 1000 → GoodP ⟨k, ch, fs, pad⟩) := hg
    have HLE : Hid ((packN ⟨k, ch, fs, pad⟩).length ≤ len + 1) := by have h8 := HBS.out.len; show _ ≤ _; omega
    clear hp hg hle
    by_cases hpad : 1000 < pad
    · have b1 : ((1000 : Int) < pad) = True := eq_true (by omega)
      clear hpad
      go_enter Tryd.func7, Tryd.ntmps7
      go_wp2_with (first
        | (go_at_call 9; refine (awake_any _ HC.out).mono ?_; rintro e w1 ⟨rfl, hB⟩)
        | (go_at_call 10; go_loud (refine (parse_any _ _ _ bs _ (HBS.out.keep hB) (HC.out.keep hB)).mono ?_; rintro e w2 ⟨he, hb2⟩; obtain ⟨a2, c2, rfl, hf2⟩ := he.elim HP.out; replace hB := hB.trans (hb2.mono hB.size); clear he hb2 hf2)))
      go_ret
      exact ⟨rfl, hB.alloc hB.size _⟩
    · have b1 : ((1000 : Int) < pad) = False := eq_false (by omega)
      have hpad2 : pad ≤ 1000 := by omega
      have HG2 : Hid (GoodP ⟨k, ch, fs, pad⟩) := HG.out hpad2
      obtain ⟨n, HN⟩ : ∃ n, Hid (fs.length = n) := ⟨_, rfl⟩
      have hn12 : n ≤ 12 := by have := HG2.out.few; have h2 := HN.out; simp only at this; omega
      obtain ⟨m, HM⟩ : ∃ m, Hid ((packN ⟨k, ch, fs, pad⟩).length = m) := ⟨_, rfl⟩
      have hm1 : m ≤ len + 1 := by have := HLE.out; have h2 := HM.out; omega
      have hm2 : decide ((m : Int) ≤ (len : Int) + 1) = true := decide_eq_true (by omega)
      clear hpad
      have y1 : Hid True := trivial
      go_enter Tryd.func7, Tryd.ntmps7
      go_wp2_with (first
        | (go_at_call 9; refine (awake_any _ HC.out).mono ?_; rintro e w1 ⟨rfl, hB⟩)
        | (go_at_call 10; clear y1; go_loud (refine (parse_any _ _ _ bs _ (HBS.out.keep hB) (HC.out.keep hB)).mono ?_; rintro e w2 ⟨he, hb2⟩; obtain ⟨a2, c2, rfl, hf2⟩ := he.elim HP.out; have hnew := four_new w2 (.int .i64 (k : Nat)) (.int .i64 (ch : Nat)) (.slice a2 fs.length c2) (.int .i64 (pad : Nat)) 25; have hat := hf2.at_; have HF : Hid (∃ B, FramesAt w2 B a2 fs) := ⟨_, hat.2.1⟩; have hc2 : fs.length ≤ c2 := hat.2.2.2; have HSM : Hid (∀ f ∈ fs, ∀ x ∈ f, x < 256) := hf2.small; rw [HN.out] at hnew hc2 ⊢; replace hB := hB.trans (hb2.mono hB.size); clear he hb2 hf2 hat))
        | (go_at_call 13; go_loud (obtain ⟨B2, hf3⟩ := HF.out; have hA := (Below.refl w2.heap.size w2).alloc (Nat.le_refl _) (.cells #[.int .i64 (k : Nat), .int .i64 (ch : Nat), .slice a2 n c2, .int .i64 (pad : Nat)] 25); have hB4 := hB.trans (hA.mono hB.size); refine (pack_good k ch pad a2 n c2 fs B2 _ (HC.out.keep hB4) (hf3.keep hA) HN.out hc2 HG2.out).mono ?_; rintro e w3 ⟨⟨a3, m3, c3, rfl, ho3⟩, hb3⟩; obtain rfl : m3 = m := (owned_len ho3).trans HM.out; have HO3 : Hid (Bs w3 a3 m3 c3 (packN ⟨k, ch, fs, pad⟩)) := (Ob.bs ho3 (packN_small HG2.out HSM.out) (by have := packN_few HG2.out; have h2 := HM.out; omega)).1; have hP := hnew.keep hb3; replace HF : Hid (FramesAt w3 B2 a2 fs) := (hf3.keep hA).keep hb3; replace hB := hB4.trans (hb3.mono hB4.size); clear hB4 hA hb3 ho3 hf3 hnew))
        | (go_at_call 10; go_loud (refine (parse_any _ _ _ _ _ HO3.out (HC.out.keep hB)).mono ?_; rintro e w4 ⟨he, hb4⟩; obtain ⟨a4, c4, rfl, hf4⟩ := he.elim (parse_pack HG2.out); have HF4 : Hid (∃ B, FramesAt w4 B a4 fs) := ⟨_, hf4.at_.2.1⟩; replace HF : Hid (FramesAt w4 B2 a2 fs) := HF.out.keep hb4; replace hP := hP.keep hb4; obtain ⟨p0, p1, p2, p3⟩ := hP.cells; obtain ⟨s0, s1, s2, s3⟩ := hP.cellsA; rw [HN.out]; replace hB := hB.trans (hb4.mono hB.size); clear he hb4 hf4))
        | (go_at_call 16; go_loud (obtain ⟨B4, hf5⟩ := HF4.out; refine (is_same _ _ _ _ _ n _ _ fs B4 B2 _ (hf5.keep ((Below.refl _ _).alloc (Nat.le_refl _) _)) (HF.out.keep ((Below.refl _ _).alloc (Nat.le_refl _) _)) HN.out (by omega)).mono ?_; rintro e w5 ⟨rfl, hb5⟩; replace hB := (hB.alloc hB.size _).trans (hb5.mono (by simp; have := hB.size; omega)); clear hb5)))
      go_ret
      exact ⟨rfl, hB⟩

end Go.Proofs.YtgiellpepnbpcaaDoor
