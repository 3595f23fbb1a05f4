/- What package toc's calls on bytes come to: the code, its byte, one length. -/
import Derived.Test.YtgiellpepnbpcaaDoorTocC
import Derived.Test.YtgiellpepnbpcaaDoorMB
import Derived.Test.YtgiellpepnbpcaaDoorBitsI
import Derived.BigQuiet
import Derived.Deep.QuietTactic
namespace Go.Proofs.YtgiellpepnbpcaaDoor
open Go.RowKit

theorem Bs.at0 {w : World} {a : Option Addr} {n cap : Nat} {bs : List Nat} (h : Bs w a n cap bs) (h0 : 0 < n) : ∃ x r, bs = x :: r ∧ x < 256 ∧ r.length + 1 = n := by
  cases bs with
  | nil => have := h.len; simp at this; omega
  | cons x r => exact ⟨x, r, rfl, h.row.small x (by simp), by have := h.len; simpa using this⟩

/-- What one length's cut answers. -/
def CutLen (a0 : Option Addr) (n0 c0 : Nat) (bs : List Nat) (e : Ending) : Prop :=
  match take2 bs with
  | none => e = .returned (.tuple #[.int .i64 0, .slice none 0 0, .bool false])
  | some (x, r) => ∃ a n c, e = .returned (.tuple #[.int .i64 (x : Nat), .slice a n c, .bool true]) ∧ Sub a0 n0 c0 bs a n c r

theorem CutLen.no {a0 : Option Addr} {n0 c0 : Nat} {bs : List Nat} (h : take2 bs = none) : CutLen a0 n0 c0 bs (.returned (.tuple #[.int .i64 0, .slice none 0 0, .bool false])) := by
  unfold CutLen; rw [h]
theorem CutLen.yes {a0 : Option Addr} {n0 c0 : Nat} {bs r : List Nat} {x : Nat} (h : take2 bs = some (x, r)) {z : Int} (hz : z = x) {a : Option Addr} {n c : Nat} (hb : Sub a0 n0 c0 bs a n c r) : CutLen a0 n0 c0 bs (.returned (.tuple #[.int .i64 z, .slice a n c, .bool true])) := by
  unfold CutLen; rw [h, hz]; exact ⟨a, n, c, rfl, hb⟩

theorem cutLength_any (a : Option Addr) (n cap : Nat) (bs : List Nat) (w : World) (h : Bs w a n cap bs) :
    Calls Tryd.prog 37 #[.slice a n cap] w fun e w' => CutLen a n cap bs e ∧ ∃ k, w' = w.drewN k := by
  have hcap := h.room
  by_cases h0 : n = 0
  · subst h0
    have HN : Hid (take2 bs = none) := by
      have : bs = [] := List.eq_nil_of_length_eq_zero h.len
      subst this; rfl
    clear h
    go_enter Tryd.func37, Tryd.ntmps37
    go_wp2
    go_ret3
    exact ⟨.no HN.out, 0, rfl⟩
  · obtain ⟨x, r, rfl, hx, hr⟩ := h.at0 (by omega)
    obtain ⟨g, o, rfl, hg, hcell⟩ := h.cell (i := 0) (by omega)
    have hn0 : (0 : Int) < n := by omega
    have c0 : w.cell? ⟨g, o, none⟩ = some (.int .u8 (x : Nat)) := hcell 0 (by omega)
    by_cases hlt : x < 252
    · have HN : Hid (take2 (x :: r) = some (x, r)) := if_pos hlt
      obtain ⟨a1, n1, cap1, hn', hb1, _, hs1⟩ := h.from_ 1 1 rfl (by omega)
      have HB1 : Hid (Sub _ n cap (x :: r) a1 n1 cap1 r) := hb1
      have hn1 : (1 : Int) ≤ n := by omega
      have b0 : (0 : Int) ≤ x := by omega
      have b1 : ((x : Int) < 252) = True := eq_true (by omega)
      have b2 : x ≤ 255 := by omega
      clear h hb1 hcell hx hlt hr hn'
      go_enter Tryd.func37, Tryd.ntmps37
      go_wp2
      go_quiet (fail)
      go_wp2
      go_ret3
      exact ⟨.yes HN.out rfl HB1.out, _, rfl⟩
    · have b0 : (0 : Int) ≤ x := by omega
      have b1 : ((x : Int) < 252) = False := eq_false (by omega)
      have b2 : x ≤ 255 := by omega
      by_cases hn1 : n = 1
      · subst hn1
        have HN : Hid (take2 (x :: r) = none) := by
          have : r = [] := List.eq_nil_of_length_eq_zero (by omega)
          subst this; exact if_neg hlt
        clear h hcell hx hlt hr
        go_enter Tryd.func37, Tryd.ntmps37
        go_wp2
        go_ret3
        exact ⟨.no HN.out, 0, rfl⟩
      · obtain ⟨y, r2, rfl⟩ : ∃ y r2, r = y :: r2 := by
          cases r with
          | nil => simp at hr; omega
          | cons y r2 => exact ⟨y, r2, rfl⟩
        have hy : y < 256 := h.row.small y (by simp)
        have c1 : w.cell? ⟨g, o + 1, none⟩ = some (.int .u8 (y : Nat)) := hcell 1 (by omega)
        have HN : Hid (take2 (x :: y :: r2) = some (x + 4 * y, r2)) := if_neg hlt
        obtain ⟨a1, n1, cap1, hn', hb1, _, hs1⟩ := h.from_ 2 2 rfl (by omega)
        have HB1 : Hid (Sub _ n cap (x :: y :: r2) a1 n1 cap1 r2) := hb1
        have hn1 : (1 : Int) < n := by omega
        have hn2 : (2 : Int) ≤ n := by omega
        have b3 : (0 : Int) ≤ y := by omega
        have b4 : y ≤ 255 := by omega
        clear h hb1 hcell hr hx hlt hy hn'
        go_enter Tryd.func37, Tryd.ntmps37
        go_wp2
        go_quiet (fail)
        go_wp2
        go_ret3
        exact ⟨.yes HN.out (by omega) HB1.out, _, rfl⟩

/-! ### One byte more -/
theorem info_u8 : (Tryd.prog.info? 5).map (fun i => (i.zero, i.size, i.bytes)) = some (some (.int .u8 0), 1, 1) := info_uint8

theorem news_alloc {w : World} {cs : List Nat} {k : Nat} {vs : Array Value} (hv : vs = (bvals cs).toArray) (hk : cs.length = k) : News (w.alloc (.cells vs 5)) (some ⟨w.heap.size, 0, none⟩) k k cs :=
  ⟨hk, .inr ⟨_, rfl, fun i hi => by
    subst hv
    rw [Addr.add_lit, Nat.zero_add]
    show (w.alloc _).cell? ⟨w.heap.size, i, none⟩ = _
    rw [World.cell?_alloc_new, bvals]
    simp [show i < cs.length by omega]⟩⟩

/-- 'append(b, x)', 'append(b, x, y)' of bytes that are written out, onto bytes of the call's own. -/
theorem wpList_put_bytes {ops : Array Oper} {rest : List Oper} {o : Oper} {a : Act} {w : World} {Q : Exit → Act → World → Prop} (B : Nat) (v : Value) (n : Nat) (bs cs : List Nat) (k : Nat) (vs : Array Value) (hv : vs = (bvals cs).toArray) (hk : cs.length = k)
    (hown : w.ownsRow B 5 1 v n (bvals bs)) (hn : n + k ≤ 140737488355328) (hB : B ≤ w.heap.size)
    (hw : Region.wanted o (yielded ops a.tmps) = true) (s x : Operand)
    (ho : o.op = .call { callee := .builtin .append, args := #[s, x], argTypes := #[29, 29] })
    (hsv : a.eval s = v) (H : Nat) (hH : w.heap.size = H) (hxv : a.eval x = .slice (some ⟨H, 0, none⟩) k k)
    (h : ∀ a' c' w', w'.ownsRow B 5 1 (.slice a' (n + k) c') (n + k) (bvals (bs ++ cs)) → Below B w w' → wpList Tryd.prog ops Q rest (a.put o.dst (.slice a' (n + k) c')) w') :
    wpList Tryd.prog ops Q (o :: rest) a (w.alloc (.cells vs 5)) := by
  subst hH
  refine wpList_append_bytes B v n bs (some ⟨w.heap.size, 0, none⟩) k k cs (hown.alloc _) (news_alloc hv hk) hn (by simp; omega) hw s x ho hsv hxv ?_
  intro a' c' w' h1 h2
  exact h a' c' w' h1 (((Below.refl B w).alloc hB _).grown h2 (by simp; omega) (fun k hk => (hown.lt k hk).1))

theorem addLength_any (B : Nat) (v : Value) (bs : List Nat) (x : Nat) (w : World) (h : Ob B w v bs) (hx : x ≤ 1275) (hl : bs.length ≤ 1000000) (hB : B ≤ w.heap.size) :
    Calls Tryd.prog 31 #[v, .int .i64 (x : Nat)] w fun e w' => ∃ v', e = .returned v' ∧ Ob B w' v' (bs ++ putN x) ∧ Below B w w' := by
  obtain ⟨a0, c0, rfl⟩ := ownsRow_form h
  have HO : Hid (w.ownsRow B 5 1 (.slice a0 bs.length c0) bs.length (bvals bs)) := h
  clear h
  generalize hn : bs.length = n at *
  have HL : Hid (bs.length = n) := hn
  have HN : Hid (n ≤ 1000000) := hl
  clear hn hl
  have b0 : (0 : Int) ≤ x := by omega
  by_cases hlt : x < 252
  · have HP : Hid (putN x = [x]) := if_pos (by omega)
    have b1 : ((x : Int) < 252) = True := eq_true (by omega)
    have b3 : x ≤ 255 := by omega
    clear hx hlt
    go_enter Tryd.func31, Tryd.ntmps31
    go_wp2_with (at_builtin; go_loud (refine wpList_put_bytes B _ n bs [x] 1 _ ?_ rfl HO.out (by have := HN.out; omega) hB rfl _ _ rfl rfl _ rfl rfl ?_; (· simp [bvals]); intro a1 c1 w1 ho1 hb1))
    go_ret
    exact ⟨_, rfl, by rw [HP.out]; show World.ownsRow _ _ _ _ _ _ _; rw [List.length_append, HL.out]; exact ho1, hb1⟩
  · have HP : Hid (putN x = [252 + x % 4, (x - (252 + x % 4)) / 4]) := if_neg (by omega)
    have HE : Hid (((x : Int) - (252 + (x : Int) % 4)) / 4 = (((x - (252 + x % 4)) / 4 : Nat) : Int)) := by show _ = _; omega
    have hm : 0 ≤ (x : Int) % 4 ∧ (x : Int) % 4 ≤ 3 := by omega
    have b1 : ((x : Int) < 252) = False := eq_false (by omega)
    have HX : Hid (252 ≤ x ∧ x ≤ 1275) := by show _ ∧ _; omega
    have b5 : 0 ≤ (x : Int) - (252 + (x : Int) % 4) ∧ (x : Int) - (252 + (x : Int) % 4) ≤ 1023 := by omega
    have b6 : x ≤ 1275 := hx
    clear hx hlt
    go_enter Tryd.func31, Tryd.ntmps31
    go_wp2_with (at_builtin; go_loud (refine wpList_put_bytes B _ n bs [252 + x % 4, (x - (252 + x % 4)) / 4] 2 _ ?_ rfl HO.out (by have := HN.out; omega) hB rfl _ _ rfl rfl _ rfl rfl ?_; (· simp [bvals]; have := HX.out; omega); intro a1 c1 w1 ho1 hb1))
    go_ret
    exact ⟨_, rfl, by rw [HP.out]; show World.ownsRow _ _ _ _ _ _ _; rw [List.length_append, HL.out]; exact ho1, hb1⟩

end Go.Proofs.YtgiellpepnbpcaaDoor
