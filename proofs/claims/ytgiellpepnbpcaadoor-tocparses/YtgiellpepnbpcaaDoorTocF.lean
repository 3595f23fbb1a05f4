/- What package toc's cutPad, sizesOf and cutFrames come to. -/
import Derived.Test.YtgiellpepnbpcaaDoorTocD
namespace Go.Proofs.YtgiellpepnbpcaaDoor
open Go.RowKit

def PadAns (a0 : Option Addr) (n0 c0 : Nat) (bs : List Nat) (e : Ending) : Prop :=
  match padP bs with
  | none => e = .returned (.tuple #[.int .i64 0, .slice none 0 0, .bool false])
  | some (p, r) => ∃ a n c, e = .returned (.tuple #[.int .i64 (p : Nat), .slice a n c, .bool true]) ∧ Sub a0 n0 c0 bs a n c r

theorem PadAns.no {a0 : Option Addr} {n0 c0 : Nat} {bs : List Nat} (h : padP bs = none) : PadAns a0 n0 c0 bs (.returned (.tuple #[.int .i64 0, .slice none 0 0, .bool false])) := by
  unfold PadAns; rw [h]
theorem PadAns.yes {a0 : Option Addr} {n0 c0 : Nat} {bs r : List Nat} {p : Nat} (h : padP bs = some (p, r)) {z : Int} (hz : z = p) {a : Option Addr} {n c : Nat} (hb : Sub a0 n0 c0 bs a n c r) : PadAns a0 n0 c0 bs (.returned (.tuple #[.int .i64 z, .slice a n c, .bool true])) := by
  unfold PadAns; rw [h, hz]; exact ⟨a, n, c, rfl, hb⟩

theorem drop_at {bs : List Nat} {m n : Nat} (hl : bs.length = n) (h : m < n) : bs.drop m = (bs[m]?.getD 0) :: bs.drop (m + 1) := by
  have hm : m < bs.length := by omega
  rw [List.drop_eq_getElem_cons hm, List.getElem?_eq_getElem hm]
  rfl

set_option maxHeartbeats 1000000 in
theorem cutPad_any (a : Option Addr) (n cap : Nat) (bs : List Nat) (w : World) (h : Bs w a n cap bs) :
    Calls Tryd.prog 24 #[.slice a n cap] w fun e w' => PadAns a n cap bs e ∧ ∃ k, w' = w.drewN k := by
  have HB : Hid (Bs w a n cap bs) := h
  have hn := h.size
  have hcap := h.room
  clear h
  go_enter Tryd.func24, Tryd.ntmps24
  go_wp2
  go_loopw [2, 9] (fun p i W => W = w ∧ ∃ m q : Nat, m ≤ n ∧ i = .int .i64 m ∧ p = .int .i64 q ∧ q ≤ 254 * m ∧ Hid (padN bs 0 = padN (bs.drop m) q)) (fun _ i _ => n - (intOf i).toNat)
  case atStart => exact ⟨rfl, 0, 0, Nat.zero_le _, rfl, rfl, Nat.zero_le _, rfl⟩
  case round =>
    obtain ⟨rfl, m, q, hm, rfl, rfl, hq, HP⟩ := hrel
    by_cases hlt : m < n
    · obtain ⟨g, o, rfl, hg, hcell⟩ := HB.out.cell (i := m) hlt
      have hc := hcell m hlt
      have hx := small_at HB.out.row.small m
      have hd := drop_at HB.out.len hlt
      generalize bs[m]?.getD 0 = x at *
      have HD : Hid (bs.drop m = x :: bs.drop (m + 1)) := hd
      clear hd hcell
      have b0 : (0 : Int) ≤ x := by omega
      have b2 : x ≤ 255 := by omega
      have b3 : q ≤ 35747322041212928 := by omega
      by_cases hx255 : x = 255
      · have HE : Hid (padN (bs.drop m) q = padN (bs.drop (m + 1)) (q + 254)) := by
          show _ = _
          rw [HD.out]
          exact if_pos hx255
        subst hx255
        have hc2 : wr.cell? ⟨g, o + m, none⟩ = some (.int .u8 255) := hc
        clear hc hx b2
        go_wp2
        go_roundw
        case rel => exact ⟨by trivial, m + 1, q + 254, by omega, by go_num, by go_num, by omega, by show _ = _; rw [HP.out, HE.out]⟩
        case measure => simp [intOf]; omega
      · have HE : Hid (padN bs 0 = some (q + x, bs.drop (m + 1))) := by
          show _ = _
          rw [HP.out, HD.out]
          exact if_neg hx255
        have b1 : ((x : Int) == 255) = false := beq_eq_false_iff_ne.2 (by omega)
        obtain ⟨a1, n1, cap1, hn1, hsub1, _, hs1⟩ := HB.out.from_ (m + 1) ((m : Int) + 1) (by omega) (by omega)
        have hb1 := hsub1 _ HB.out
        have hcap1 := hb1.room
        have HS1 : Hid (Sub _ n cap bs a1 n1 cap1 (bs.drop (m + 1))) := hsub1
        clear hsub1
        have HB1 : Hid (Bs wr a1 n1 cap1 (bs.drop (m + 1)) ∧ (bs.drop (m + 1)).length = n1) := ⟨hb1, hb1.len⟩
        have hn1' : n1 ≤ 140737488351232 := hb1.size
        have hbd : (0 : Int) ≤ (m : Int) + 1 ∧ (m : Int) + 1 ≤ n := by omega
        clear hx hx255 hn1 hb1
        by_cases hp : n1 < q + x
        · have HN : Hid (padP bs = none) := by
            show padP bs = none
            unfold padP
            rw [HE.out]
            simp only
            rw [if_neg (by have := HB1.out.2; omega)]
          have b4 : (n1 : Int) < (q : Int) + (x : Int) := by omega
          clear hp
          go_wp2
          go_ret3
          exact ⟨.no HN.out, 0, rfl⟩
        · obtain ⟨a2, n2, cap2, hn2, hb2, _, hs2⟩ := HB1.out.1.upto (n1 - (q + x)) ((n1 : Int) - ((q : Int) + (x : Int))) (by omega) (by omega)
          have HN : Hid (padP bs = some (q + x, (bs.drop (m + 1)).take (n1 - (q + x)))) := by
            show padP bs = _
            unfold padP
            rw [HE.out]
            simp only
            rw [HB1.out.2, if_pos (by omega)]
          have HB2 : Hid (Sub _ n cap bs a2 n2 cap2 ((bs.drop (m + 1)).take (n1 - (q + x)))) := HS1.out.trans hb2
          have b4 : ¬ (n1 : Int) < (q : Int) + (x : Int) := by omega
          have b5 : (0 : Int) ≤ (n1 : Int) - ((q : Int) + (x : Int)) ∧ (n1 : Int) - ((q : Int) + (x : Int)) ≤ cap1 := by omega
          clear hp hn2 hb2
          go_wp2
          go_quiet (fail)
          go_wp2
          go_ret3
          exact ⟨.yes HN.out (by omega) HB2.out, _, rfl⟩
    · obtain rfl : m = n := by omega
      have HN : Hid (padP bs = none) := by
        show padP bs = none
        unfold padP
        have e : padN bs 0 = none := by
          rw [HP.out, List.drop_of_length_le (by rw [HB.out.len]; exact Nat.le_refl _)]
          rfl
        rw [e]
      go_wp2
      go_ret3
      exact ⟨.no HN.out, 0, rfl⟩

end Go.Proofs.YtgiellpepnbpcaaDoor
