/- The program's reader: numbers that are mostly small; bytes that are copied; a reader is made. -/
import Derived.Test.YtdbgcbbfnjoebaaRcE
namespace Go.Proofs.Ytdbgcbbfnjoebaa
open Go.RowKit

theorem lapS_eq (b : List Nat) (fs decay : Nat) (s : St) (h : 256 ≤ fs ∧ fs ≤ 28000 ∧ decay ≤ 16000) :
    lapS b fs decay s = ((lapAll fs decay (chooseS s 32768)).1, takeS b s (lapAll fs decay (chooseS s 32768)).2.1 (min (lapAll fs decay (chooseS s 32768)).2.2 32768) 32768) := by
  rw [lapS, if_pos ⟨by omega, by omega, by omega, by omega⟩, Int.toNat_natCast, Int.toNat_natCast]

/-! ### Bytes that are appended -/
def bvals (bs : List Nat) : List Value := bs.map fun (x : Nat) => Value.int .u8 (x : Int)

theorem info_uint8 : (Try.prog.info? 5).map (fun i => (i.zero, i.size, i.bytes)) = some (some (.int .u8 0), 1, 1) := by kernel_rfl

/-- Where bytes come from: nil, or cells. -/
def SrcAt (w : World) (xo : Option Addr) (m cap : Nat) (cs : List Nat) : Prop :=
  cs.length = m ∧ ((xo = none ∧ m = 0 ∧ cap = 0) ∨ ∃ x, xo = some x ∧ ∀ i, i < m → w.cell? (x.add i) = some (.int .u8 (byteAt cs i)))

theorem SrcAt.keep {w w' : World} {xo : Option Addr} {m cap : Nat} {cs : List Nat} (h : SrcAt w xo m cap cs) {B : Nat} (hb : Below B w w') (hB : w.heap.size ≤ B) : SrcAt w' xo m cap cs := by
  refine ⟨h.1, ?_⟩
  rcases h.2 with h | ⟨x, hx, hc⟩
  · exact .inl h
  · exact .inr ⟨x, hx, fun i hi => (hb.cell (p := x.add i) (Nat.lt_of_lt_of_le (World.block_lt_of_cell? w _ (hc i hi)) hB)).trans (hc i hi)⟩

theorem append_bytes (ty : TypeId) (B : Nat) (w : World) (v : Value) (n : Nat) (bs : List Nat) (hown : w.ownsRow B 5 1 v n (bvals bs)) (xo : Option Addr) (m cap : Nat) (cs : List Nat) (hs : SrcAt w xo m cap cs) (hn : n + m ≤ 140737488355328) (hB : B ≤ w.heap.size) :
    ∃ v' w', (Builtin.append_ #[35, 35] ty #[v, .slice xo m cap]).run Try.prog w = .ok v' w' ∧ w'.ownsRow B 5 1 v' (n + m) (bvals (bs ++ cs)) ∧ Below B w w' := by
  obtain ⟨i, hi, hzz⟩ := Option.map_eq_some_iff.1 info_uint8
  simp only [Prod.mk.injEq] at hzz
  obtain ⟨hz, hsz, hb⟩ := hzz
  obtain ⟨hl, ⟨rfl, rfl, rfl⟩ | ⟨x, rfl, hc⟩⟩ := hs
  · obtain rfl : cs = [] := List.eq_nil_of_length_eq_zero hl
    refine ⟨v, w, run_append_owned_none w B 35 ty 5 i 1 Try.underlying35 hi v n _ hown, ?_, Below.refl _ _⟩
    rw [List.append_nil]
    exact hown
  · obtain ⟨v', w', hr, ho, hg, _⟩ := run_append_own (P := Try.prog) w B 35 ty 5 i (.int .u8 0) 1 1 Try.underlying35 hi hz hsz hb rfl (by decide) v n _ hown x m cap (bvals cs) (by simp [bvals, hl])
      (by
        intro j u hj
        have hjn : j < cs.length := by
          rcases Nat.lt_or_ge j cs.length with h | h
          · exact h
          · rw [List.getElem?_eq_none (by simpa [bvals] using h)] at hj; cases hj
        have h1 := hc j (by omega)
        rw [bvals, List.getElem?_map, List.getElem?_eq_getElem hjn] at hj
        rw [byteAt, List.getElem?_eq_getElem hjn] at h1
        simp only [Option.map_some, Option.some.injEq, Option.getD_some] at hj h1
        subst hj
        exact h1)
      (by intro u hu; obtain ⟨q, _, rfl⟩ := List.mem_map.1 hu; rfl) (by unfold maxLen; omega) (by omega) hB
    refine ⟨v', w', hr, ?_, (Below.refl B w).grown hg hB (fun k hk => (hown.lt k hk).1)⟩
    rw [bvals, List.map_append]
    exact ho

theorem wpList_append_bytes {ops : Array Oper} {rest : List Oper} {o : Oper} {a : Act} {w : World} {Q : Exit → Act → World → Prop} (B : Nat) (v : Value) (n : Nat) (bs : List Nat) (xo : Option Addr) (m cap : Nat) (cs : List Nat)
    (hown : w.ownsRow B 5 1 v n (bvals bs)) (hs : SrcAt w xo m cap cs) (hn : n + m ≤ 140737488355328) (hB : B ≤ w.heap.size)
    (hw : Region.wanted o (yielded ops a.tmps) = true) (s x : Operand)
    (ho : o.op = .call { callee := .builtin .append, args := #[s, x], argTypes := #[35, 35] })
    (hsv : a.eval s = v) (hxv : a.eval x = .slice xo m cap)
    (h : ∀ v' w', w'.ownsRow B 5 1 v' (n + m) (bvals (bs ++ cs)) → Below B w w' → wpList Try.prog ops Q rest (a.put o.dst v') w') :
    wpList Try.prog ops Q (o :: rest) a w := by
  obtain ⟨v', w', hr, ho', hb⟩ := append_bytes o.type B w v n bs hown xo m cap cs hs hn hB
  exact wpList_append_run hw s x _ _ ho _ _ hsv hxv _ _ hr (h v' w' ho' hb)

/-- What a call has made and owns can be read. -/
theorem bytes_of_owned {B : Nat} {w : World} {v : Value} {n : Nat} {bs : List Nat} (hb : Bytes bs) (h : w.ownsRow B 5 1 v n (bvals bs)) :
    ∃ a g cap, v = .slice a n cap ∧ (a = none → n = 0 ∧ cap = 0) ∧ BytesIn w g a n bs ∧ (0 < n → B ≤ g ∧ g < w.heap.size) ∧ SrcAt w a n cap bs := by
  obtain ⟨hl, h⟩ := h
  have hl' : bs.length = n := by simpa [bvals] using hl
  rcases h with ⟨rfl, rfl⟩ | ⟨g, cap, cur, rfl, hg, hh, hnc, hcm, hcs, ht⟩
  · exact ⟨none, 0, 0, rfl, fun _ => ⟨rfl, rfl⟩, ⟨hl', hb, fun h0 => absurd h0 (by decide)⟩, fun h0 => absurd h0 (by decide), hl', .inl ⟨rfl, rfl, rfl⟩⟩
  · have hc : ∀ i, i < n → w.cell? ⟨g, i, none⟩ = some (.int .u8 (byteAt bs i)) := fun i hi => by
      have h1 : (cur.toList.take (n * 1))[i]? = some (.int .u8 (byteAt bs i)) := by
        rw [ht, bvals, List.getElem?_map, byteAt, List.getElem?_eq_getElem (by omega)]; rfl
      rw [Nat.mul_one, List.getElem?_take_of_lt hi] at h1
      have h2 : cur[i]? = some (.int .u8 (byteAt bs i)) := by simpa using h1
      simp [World.cell?, hh, h2]
    refine ⟨_, g, cap, rfl, fun h0 => (by cases h0), ⟨hl', hb, fun _ => ⟨0, rfl, fun i hi => by rw [Nat.zero_add]; exact hc i hi⟩⟩, fun _ => ⟨hg, (Array.getElem?_eq_some_iff.1 hh).1⟩, hl', .inr ⟨_, rfl, fun i hi => by rw [Addr.add_lit, Nat.zero_add]; exact hc i hi⟩⟩

theorem owned_empty (w : World) : (w.alloc (.cells #[] 5)).ownsRow w.heap.size 5 1 (.slice (some ⟨w.heap.size, 0, none⟩) 0 0) 0 (bvals []) :=
  have h : (w.alloc (.cells #[] 5)).ownsRow w.heap.size 5 1 (.slice (some ⟨w.heap.size, 0, none⟩) 0 0) 0 [] := World.ownsRow_made w #[] 0 (Nat.le_refl _) (by decide) rfl
  h

theorem BytesIn.src {w : World} {g : Nat} {a : Option Addr} {n cap : Nat} {bs : List Nat} (h : BytesIn w g a n bs) (ha : a = none → n = 0 ∧ cap = 0) : SrcAt w a n cap bs := by
  obtain ⟨h1, _, h3⟩ := h
  refine ⟨h1, ?_⟩
  cases a with
  | none => exact .inl ⟨rfl, ha rfl⟩
  | some x =>
    refine .inr ⟨x, rfl, fun i hi => ?_⟩
    obtain ⟨o, hx, hc⟩ := h3 (by omega)
    cases hx
    rw [Addr.add_lit]
    exact hc i hi

/-! ### A reader is made -/
/-- A slice of bytes as it may be handed in. -/
structure ArgIn (w : World) (g : Nat) (a : Option Addr) (n cap : Nat) (bs : List Nat) : Prop where
  bytes : BytesIn w g a n bs
  nil : a = none → n = 0 ∧ cap = 0
  size : n ≤ 140737488351232

theorem clone_bytes (g : Nat) (a : Option Addr) (n cap : Nat) (bs : List Nat) (w : World) (h : ArgIn w g a n cap bs) :
    Calls Try.prog 27 #[.slice a n cap] w fun e w' => ∃ r c q, e = .returned (.slice r n c) ∧ BytesIn w' q r n bs ∧ (0 < n → w.heap.size ≤ q ∧ q < w'.heap.size) ∧ Below w.heap.size w w' := by
  have HS : Hid (SrcAt w a n cap bs) := h.bytes.src h.nil
  have hby := h.bytes.2.1
  have hl := h.bytes.1
  have hsz := h.size
  cases a with
  | none =>
    obtain ⟨rfl, rfl⟩ := h.nil rfl
    have hnn : ∀ W : World, (binOp .eql 35 (.slice none 0 0) (.slice none 0 0)).run Try.prog W = .ok (.bool true) W := fun W => by kernel_rfl
    clear h
    go_enter Try.func27, Try.ntmps27
    go_wp2
    go_ret
    exact ⟨none, 0, 0, rfl, ⟨hl, hby, fun h0 => absurd h0 (by decide)⟩, fun h0 => absurd h0 (by decide), Below.refl _ _⟩
  | some x =>
    have hnn : ∀ W : World, (binOp .eql 35 (.slice (some x) n cap) (.slice none 0 0)).run Try.prog W = .ok (.bool false) W := fun W => by kernel_rfl
    clear h
    go_enter Try.func27, Try.ntmps27
    go_wp2_with (at_builtin; refine wpList_append_bytes _ _ 0 [] (some x) n cap bs (owned_empty _) (HS.out.keep ((Below.refl _ _).alloc (Nat.le_refl _) _) (Nat.le_refl _)) (by omega) (by simp) rfl _ _ rfl rfl rfl ?_; intro v w1 hown hbel; obtain ⟨r, q, c, rfl, _, hr2, hr3, _⟩ := bytes_of_owned hby hown)
    go_ret
    rw [Nat.zero_add, List.nil_append] at *
    exact ⟨r, c, q, rfl, hr2, hr3, ((Below.refl _ _).alloc (Nat.le_refl _) _).trans hbel⟩

end Go.Proofs.Ytdbgcbbfnjoebaa
