/- What package toc's code, its byte and the padding's bytes come to. -/
import Derived.Test.YtgiellpepnbpcaaDoorTocD
namespace Go.Proofs.YtgiellpepnbpcaaDoor
open Go.RowKit

/-- The code of frames so many, of so much padding, unlike or not. -/
def codeN (pad n : Nat) (u : Bool) : Nat := if 0 < pad ∨ 2 < n then 3 else if n = 1 then 0 else if u = true then 2 else 1

theorem codeOf_any (c ch : Int) (pad n cap : Nat) (a : Option Addr) (u : Bool) (w : World) (hn : n ≤ 140737488351232) (hp : pad ≤ 1000) :
    Calls Tryd.prog 28 #[.agg #[.int .i64 c, .int .i64 ch, .slice a n cap, .int .i64 (pad : Nat)], .bool u] w fun e w' => e = .returned (.int .i64 (codeN pad n u : Nat)) ∧ Below w.heap.size w w' := by
  by_cases h1 : 0 < pad
  · have HC : Hid (codeN pad n u = 3) := if_pos (.inl h1)
    have h1' : ¬ pad = 0 := by omega
    clear h1
    go_enter Tryd.func28, Tryd.ntmps28
    go_wp2
    go_ret
    exact ⟨by rw [HC.out]; rfl, (Below.refl _ _).alloc (Nat.le_refl _) _⟩
  · obtain rfl : pad = 0 := by omega
    by_cases h2 : 2 < n
    · have HC : Hid (codeN 0 n u = 3) := if_pos (.inr h2)
      have h2' : ((2 : Int) < n) = True := eq_true (by omega)
      clear h1 h2
      go_enter Tryd.func28, Tryd.ntmps28
      go_wp2
      go_ret
      exact ⟨by rw [HC.out]; rfl, (Below.refl _ _).alloc (Nat.le_refl _) _⟩
    · have h2' : ((2 : Int) < n) = False := eq_false (by omega)
      have e0 : codeN 0 n u = if n = 1 then 0 else if u = true then 2 else 1 := if_neg (by omega)
      by_cases h3 : n = 1
      · subst h3
        have HC : Hid (codeN 0 1 u = 0) := e0
        clear h1 h2 e0
        go_enter Tryd.func28, Tryd.ntmps28
        go_wp2
        go_ret
        exact ⟨by rw [HC.out]; rfl, (Below.refl _ _).alloc (Nat.le_refl _) _⟩
      · have h3' : ((n : Int) == 1) = false := beq_eq_false_iff_ne.2 (by omega)
        rw [if_neg h3] at e0
        have HC : Hid (codeN 0 n u = if u = true then 2 else 1) := e0
        clear h1 h2 h3 e0
        cases u
        all_goals
          go_enter Tryd.func28, Tryd.ntmps28
          go_wp2
          go_ret
          exact ⟨by rw [HC.out]; rfl, (Below.refl _ _).alloc (Nat.le_refl _) _⟩

/-! ### What a code stands for -/
def HeadAns (a0 : Option Addr) (n0 c0 : Nat) (code : Nat) (bs : List Nat) (e : Ending) : Prop :=
  match headP code bs with
  | none => e = .returned (.tuple #[.agg #[.int .i64 0, .bool false, .bool false], .slice none 0 0, .bool false])
  | some (m, t, p, r) => ∃ a n c, e = .returned (.tuple #[.agg #[.int .i64 (m : Nat), .bool t, .bool p], .slice a n c, .bool true]) ∧ Sub a0 n0 c0 bs a n c r

theorem HeadAns.no {a0 : Option Addr} {n0 c0 : Nat} {code : Nat} {bs : List Nat} (h : headP code bs = none) : HeadAns a0 n0 c0 code bs (.returned (.tuple #[.agg #[.int .i64 0, .bool false, .bool false], .slice none 0 0, .bool false])) := by
  unfold HeadAns; rw [h]
theorem HeadAns.yes {a0 : Option Addr} {n0 c0 : Nat} {code : Nat} {bs r : List Nat} {m : Nat} {t p : Bool} (h : headP code bs = some (m, t, p, r)) {z : Int} (hz : z = m) {a : Option Addr} {n c : Nat} (hb : Sub a0 n0 c0 bs a n c r) : HeadAns a0 n0 c0 code bs (.returned (.tuple #[.agg #[.int .i64 z, .bool t, .bool p], .slice a n c, .bool true])) := by
  unfold HeadAns; rw [h, hz]; exact ⟨a, n, c, rfl, hb⟩

theorem and_128 (v : Nat) (h : v < 256) : bits .and .i64 (v : Int) 128 = ((if v / 128 % 2 = 1 then 128 else 0 : Nat) : Int) := by
  have h1 : ∀ y : Fin 256, (y.val &&& 128) = if y.val / 128 % 2 = 1 then 128 else 0 := by decide +kernel
  have h2 := and_i64 v 128 (by omega) (by omega)
  rw [h1 ⟨v, h⟩] at h2
  exact h2

theorem and_64 (v : Nat) (h : v < 256) : bits .and .i64 (v : Int) 64 = ((if v / 64 % 2 = 1 then 64 else 0 : Nat) : Int) := by
  have h1 : ∀ y : Fin 256, (y.val &&& 64) = if y.val / 64 % 2 = 1 then 64 else 0 := by decide +kernel
  have h2 := and_i64 v 64 (by omega) (by omega)
  rw [h1 ⟨v, h⟩] at h2
  exact h2

theorem headOf_few (code : Nat) (hc : code < 3) (a : Option Addr) (n cap : Nat) (bs : List Nat) (w : World) :
    Calls Tryd.prog 22 #[.int .i64 (code : Nat), .slice a n cap] w fun e w' => HeadAns a n cap code bs e ∧ Below w.heap.size w w' := by
  have HB : Hid (Sub a n cap bs a n cap bs) := Sub.refl _ _ _ _
  rcases (show code = 0 ∨ code = 1 ∨ code = 2 by omega) with rfl | rfl | rfl
  · go_enter Tryd.func22, Tryd.ntmps22
    go_wp2
    exact bodyPost_ret (v := .tuple #[.agg #[.int .i64 1, .bool false, .bool false], .slice a n cap, .bool true]) (by simp [results, Tryd.results22, go_sem]) rfl ⟨.yes (code := 0) (m := 1) rfl rfl HB.out, (Below.refl _ _).alloc (Nat.le_refl _) _⟩
  · go_enter Tryd.func22, Tryd.ntmps22
    go_wp2
    exact bodyPost_ret (v := .tuple #[.agg #[.int .i64 2, .bool false, .bool false], .slice a n cap, .bool true]) (by simp [results, Tryd.results22, go_sem]) rfl ⟨.yes (code := 1) (m := 2) rfl rfl HB.out, (Below.refl _ _).alloc (Nat.le_refl _) _⟩
  · go_enter Tryd.func22, Tryd.ntmps22
    go_wp2
    exact bodyPost_ret (v := .tuple #[.agg #[.int .i64 2, .bool true, .bool false], .slice a n cap, .bool true]) (by simp [results, Tryd.results22, go_sem]) rfl ⟨.yes (code := 2) (m := 2) rfl rfl HB.out, (Below.refl _ _).alloc (Nat.le_refl _) _⟩

theorem headOf_three (a : Option Addr) (n cap : Nat) (bs : List Nat) (w : World) (h : Bs w a n cap bs) :
    Calls Tryd.prog 22 #[.int .i64 3, .slice a n cap] w fun e w' => HeadAns a n cap 3 bs e ∧ Below w.heap.size w w' := by
  by_cases h0 : n = 0
  · subst h0
    have HN : Hid (headP 3 bs = none) := by
      have : bs = [] := List.eq_nil_of_length_eq_zero h.len
      subst this; rfl
    clear h
    go_enter Tryd.func22, Tryd.ntmps22
    go_wp2
    exact bodyPost_ret (v := .tuple #[.agg #[.int .i64 0, .bool false, .bool false], .slice none 0 0, .bool false]) (by simp [results, Tryd.results22, go_sem]) rfl ⟨.no HN.out, (Below.refl _ _).alloc (Nat.le_refl _) _⟩
  · obtain ⟨x, r, rfl, hx, hr⟩ := h.at0 (by omega)
    obtain ⟨g, o, rfl, hg, hcell⟩ := h.cell (i := 0) (by omega)
    have hcap := h.room
    have c0 : ∀ ob, (w.alloc ob).cell? ⟨g, o, none⟩ = some (.int .u8 (x : Nat)) := fun ob => (World.cell?_of_block (w := w) (Below.heap_alloc w ob _ hg)).trans (hcell 0 (by omega))
    have HN : Hid (headP 3 (x :: r) = some (x % 64, decide (x / 128 % 2 = 1), decide (x / 64 % 2 = 1), r)) := rfl
    obtain ⟨a1, n1, cap1, hn', hb1, _, hs1⟩ := h.from_ 1 1 rfl (by omega)
    have HB1 : Hid (Sub _ n cap (x :: r) a1 n1 cap1 r) := hb1
    have hn1 : (1 : Int) ≤ n := by omega
    have hn0 : (0 : Int) < n := by omega
    have b0 : (0 : Int) ≤ x := by omega
    have b2 : x ≤ 255 := by omega
    have ha := and_128 x hx
    have hb := and_64 x hx
    clear h hb1 hcell hn' hr hx
    rcases (show x / 128 % 2 = 1 ∨ ¬ x / 128 % 2 = 1 from Classical.em _) with q1 | q1
    all_goals
      rcases (show x / 64 % 2 = 1 ∨ ¬ x / 64 % 2 = 1 from Classical.em _) with q2 | q2
      all_goals
        first | rw [if_pos q1] at ha | rw [if_neg q1] at ha
        first | rw [if_pos q2] at hb | rw [if_neg q2] at hb
        have HE : Hid (decide (x / 128 % 2 = 1) = _) := (by first | exact decide_eq_true q1 | exact decide_eq_false q1)
        have HF : Hid (decide (x / 64 % 2 = 1) = _) := (by first | exact decide_eq_true q2 | exact decide_eq_false q2)
        have HN2 : Hid (headP 3 (x :: r) = some (x % 64, _, _, r)) := (by show _ = _; rw [HN.out, HE.out, HF.out])
        clear q1 q2 HE HF HN
        go_enter Tryd.func22, Tryd.ntmps22
        go_wp2
        go_region
        go_wp2
        first
          | exact bodyPost_ret (v := .tuple #[.agg #[.int .i64 ((x : Int) % 64), .bool true, .bool true], .slice a1 n1 cap1, .bool true]) (by simp [results, Tryd.results22, go_sem]) rfl ⟨.yes HN2.out (by omega) HB1.out, ((Below.refl _ _).alloc (Nat.le_refl _) _).drew⟩
          | exact bodyPost_ret (v := .tuple #[.agg #[.int .i64 ((x : Int) % 64), .bool true, .bool false], .slice a1 n1 cap1, .bool true]) (by simp [results, Tryd.results22, go_sem]) rfl ⟨.yes HN2.out (by omega) HB1.out, ((Below.refl _ _).alloc (Nat.le_refl _) _).drew⟩
          | exact bodyPost_ret (v := .tuple #[.agg #[.int .i64 ((x : Int) % 64), .bool false, .bool true], .slice a1 n1 cap1, .bool true]) (by simp [results, Tryd.results22, go_sem]) rfl ⟨.yes HN2.out (by omega) HB1.out, ((Below.refl _ _).alloc (Nat.le_refl _) _).drew⟩
          | exact bodyPost_ret (v := .tuple #[.agg #[.int .i64 ((x : Int) % 64), .bool false, .bool false], .slice a1 n1 cap1, .bool true]) (by simp [results, Tryd.results22, go_sem]) rfl ⟨.yes HN2.out (by omega) HB1.out, ((Below.refl _ _).alloc (Nat.le_refl _) _).drew⟩

/-! ### Bytes put together -/
theorem addHead_any (B : Nat) (v : Value) (bs : List Nat) (m : Nat) (t p : Bool) (w : World) (h : Ob B w v bs) (hm : m ≤ 60) (hl : bs.length ≤ 1000000) (hB : B ≤ w.heap.size) :
    Calls Tryd.prog 29 #[v, .agg #[.int .i64 (m : Nat), .bool t, .bool p]] w fun e w' => ∃ v', e = .returned v' ∧ Ob B w' v' (bs ++ [m + (if t = true then 128 else 0) + (if p = true then 64 else 0)]) ∧ Below B w w' := by
  obtain ⟨a0, c0, rfl⟩ := ownsRow_form h
  have HO : Hid (∀ o, (w.alloc o).ownsRow B 5 1 (.slice a0 bs.length c0) bs.length (bvals bs)) := fun o => h.alloc o
  clear h
  generalize hn : bs.length = n at *
  have HL : Hid (bs.length = n) := hn
  have HN : Hid (n ≤ 1000000) := hl
  clear hn hl
  cases t <;> cases p
  case' false.false => obtain ⟨q, HQ⟩ : ∃ q, Hid (m + (if false = true then 128 else 0) + (if false = true then 64 else 0) = q ∧ q = m) := ⟨_, rfl, rfl⟩
  case' false.true => obtain ⟨q, HQ⟩ : ∃ q, Hid (m + (if false = true then 128 else 0) + (if true = true then 64 else 0) = q ∧ q = m + 64) := ⟨_, rfl, rfl⟩
  case' true.false => obtain ⟨q, HQ⟩ : ∃ q, Hid (m + (if true = true then 128 else 0) + (if false = true then 64 else 0) = q ∧ q = m + 128) := ⟨_, rfl, rfl⟩
  case' true.true => obtain ⟨q, HQ⟩ : ∃ q, Hid (m + (if true = true then 128 else 0) + (if true = true then 64 else 0) = q ∧ q = m + 192) := ⟨_, rfl, rfl⟩
  all_goals
    have b0 : (0 : Int) ≤ m := by omega
    rw [HQ.out.1]
    go_enter Tryd.func29, Tryd.ntmps29
    go_wp2_with (at_builtin; go_loud (refine wpList_put_bytes B _ n bs [q] 1 _ ?_ rfl (HO.out _) (by have := HN.out; omega) (by simp; omega) rfl _ _ rfl rfl _ (by simp) rfl ?_; (· simp [bvals]; have := HQ.out.2; omega); intro a1 c1 w1 ho1 hb1))
    go_ret
    exact ⟨_, rfl, by show World.ownsRow _ _ _ _ _ _ _; rw [List.length_append, HL.out]; exact ho1, ((Below.refl B w).alloc hB _).trans hb1⟩

theorem padBytes_step (p : Nat) (h : 254 ≤ p) : padBytes p = [255] ++ padBytes (p - 254) := by
  unfold padBytes
  rw [show p / 254 = (p - 254) / 254 + 1 by omega, List.replicate_succ, show p % 254 = (p - 254) % 254 by omega]
  rfl

theorem addPad_any (B : Nat) (v : Value) (bs : List Nat) (p : Nat) (w : World) (h : Ob B w v bs) (hp : p ≤ 1000) (hl : bs.length ≤ 1000000) (hB : B ≤ w.heap.size) :
    Calls Tryd.prog 30 #[v, .int .i64 (p : Nat)] w fun e w' => ∃ v', e = .returned v' ∧ Ob B w' v' (bs ++ padBytes p) ∧ Below B w w' := by
  have HO : Hid (Ob B w v bs) := h
  have HN : Hid (bs.length + p ≤ 1001000) := by show _ ≤ _; omega
  clear h hl
  go_enter Tryd.func30, Tryd.ntmps30
  go_wp2
  go_loopw [0, 1] (fun v i W => Below B w W ∧ ∃ (q : Nat) (cs : List Nat), q ≤ 1000 ∧ i = .int .i64 q ∧ Hid (Ob B W v cs ∧ cs ++ padBytes q = bs ++ padBytes p ∧ cs.length + q ≤ 1001000)) (fun _ i _ => (intOf i).toNat)
  case atStart => exact ⟨Below.refl _ _, p, bs, hp, rfl, HO.out, rfl, HN.out⟩
  case round =>
    obtain ⟨hb, q, cs, hq, rfl, HR⟩ := hrel
    have hsz := hb.size
    obtain ⟨a0, c0, rfl⟩ := ownsRow_form HR.out.1
    have HR2 : Hid (wr.ownsRow B 5 1 (.slice a0 cs.length c0) cs.length (bvals cs)) := HR.out.1
    generalize hn : cs.length = n at *
    have HL : Hid (cs.length = n) := hn
    clear hn
    have b0 : (0 : Int) ≤ q := by omega
    by_cases hge : 254 ≤ q
    · have HE : Hid (padBytes q = [255] ++ padBytes (q - 254)) := padBytes_step q hge
      have b1 : ((254 : Int) ≤ q) = True := eq_true (by omega)
      have HG : Hid (254 ≤ q) := hge
      have HQ : Hid (Value.int .i64 ((q : Int) - 254) = Value.int .i64 ((q - 254 : Nat) : Int) ∧ q - 254 ≤ 1000 ∧ ((q : Int) - 254).toNat < q) := ⟨by rw [show ((q : Int) - 254) = ((q - 254 : Nat) : Int) by omega], by omega, by omega⟩
      clear hge
      go_wp2_with (at_builtin; go_loud (refine wpList_put_bytes B _ n cs [255] 1 _ ?_ rfl HR2.out (by have := HR.out.2.2; omega) (by omega) rfl _ _ rfl rfl _ rfl rfl ?_; (· rfl); intro a1 c1 w1 ho1 hb1))
      go_roundw
      case rel => exact ⟨hb.trans hb1, q - 254, cs ++ [255], HQ.out.2.1, HQ.out.1, by show World.ownsRow _ _ _ _ _ _ _; rw [List.length_append, HL.out]; exact ho1, by rw [← HR.out.2.1, HE.out, List.append_assoc], by rw [List.length_append]; have := HR.out.2.2; have := HL.out; have := HG.out; show _ + _ + _ ≤ _; simp only [List.length_cons, List.length_nil]; omega⟩
      case measure => have := HQ.out.2.2; simp [intOf]; omega
    · have b1 : ((254 : Int) ≤ q) = False := eq_false (by omega)
      have hq2 : q ≤ 253 := by omega
      have HE : Hid (padBytes q = [q]) := by show _ = _; unfold padBytes; rw [show q / 254 = 0 by omega, show q % 254 = q by omega]; rfl
      clear hge
      go_wp2_with (at_builtin; go_loud (refine wpList_put_bytes B _ n cs [q] 1 _ ?_ rfl HR2.out (by have := HR.out.2.2; omega) (by omega) rfl _ _ rfl rfl _ rfl rfl ?_; (· simp [bvals]); intro a1 c1 w1 ho1 hb1))
      go_ret
      exact ⟨_, rfl, by rw [← HR.out.2.1, HE.out]; show World.ownsRow _ _ _ _ _ _ _; rw [List.length_append, HL.out]; exact ho1, hb.trans hb1⟩

end Go.Proofs.YtgiellpepnbpcaaDoor
