/- A whole writing, as plain numbers, continued: all that was written is read, in order; how much it is; bytes that lie in the span, as one number. Nothing here is of any program. -/
import Derived.Test.YtinjkffkkmbioaaRencP
namespace Go.Proofs.Ytinjkffkkmbioaa

def spansL : List Wr → Sp → Sp
  | [], e => e
  | x :: l, e => spansL l (spanW x e)

def rawsN : List Wr → Nat
  | [] => 0
  | x :: l => rawN x + rawsN l

def rawsV : List Wr → Nat
  | [] => 0
  | x :: l => rawV x + rawsV l * 2 ^ rawN x

def afterL (b : List Nat) : List Wr → St → St
  | [], s => s
  | x :: l, s => afterL b l (readW b x s).2

theorem spansL_snoc : ∀ (l : List Wr) (x : Wr) (e : Sp), spansL (l ++ [x]) e = spanW x (spansL l e)
  | [], _, _ => rfl
  | y :: l, x, e => spansL_snoc l x (spanW y e)

theorem rawsN_snoc : ∀ (l : List Wr) (x : Wr), rawsN (l ++ [x]) = rawsN l + rawN x
  | [], x => by show rawN x + 0 = 0 + rawN x; omega
  | y :: l, x => by
    show rawN y + rawsN (l ++ [x]) = rawN y + rawsN l + rawN x
    rw [rawsN_snoc l x]; omega

theorem rawsV_snoc : ∀ (l : List Wr) (x : Wr), rawsV (l ++ [x]) = rawsV l + rawV x * 2 ^ rawsN l
  | [], x => by show rawV x + 0 * _ = 0 + rawV x * 2 ^ 0; simp
  | y :: l, x => by
    show rawV y + rawsV (l ++ [x]) * 2 ^ rawN y = rawV y + rawsV l * 2 ^ rawN y + rawV x * 2 ^ (rawN y + rawsN l)
    rw [rawsV_snoc l x, Nat.add_mul, Nat.mul_assoc, ← Nat.pow_add, Nat.add_comm (rawsN l), Nat.add_assoc]

theorem rawV_lt {x : Wr} (h : okW x) : rawV x < 2 ^ rawN x := by
  unfold okW at h
  unfold rawV rawN
  by_cases h2 : x.op = 2
  · rw [if_neg (by omega), if_neg (by omega), if_pos h2] at h
    rw [if_pos h2, if_pos h2]
    exact h.2.2.2
  · rw [if_neg h2, if_neg h2]
    by_cases h3 : x.op = 3
    · rw [if_pos h3, if_pos h3]
      split
      · decide
      · exact Nat.mod_lt _ (Nat.two_pow_pos _)
    · rw [if_neg h3, if_neg h3]
      decide

theorem rawsV_lt : ∀ {l : List Wr}, (∀ x ∈ l, okW x) → rawsV l < 2 ^ rawsN l
  | [], _ => by show 0 < 2 ^ 0; decide
  | x :: l, h => by
    have h1 := rawV_lt (h x (by simp))
    have h2 := rawsV_lt (l := l) (fun y hy => h y (by simp [hy]))
    show rawV x + rawsV l * 2 ^ rawN x < 2 ^ (rawN x + rawsN l)
    rw [Nat.pow_add]
    have h3 : (rawsV l + 1) * 2 ^ rawN x ≤ 2 ^ rawsN l * 2 ^ rawN x := Nat.mul_le_mul_right _ h2
    rw [Nat.add_mul, Nat.one_mul] at h3
    rw [Nat.mul_comm (2 ^ rawN x)]
    omega

theorem spansL_in {b : List Nat} (hb : Bytes b) : ∀ (l : List Wr) (e : Sp), (∀ x ∈ l, okW x) → In b (spansL l e) → In b e
  | [], _, _, h => h
  | x :: l, e, ho, h => spanW_in hb (ho x (by simp)) (spansL_in hb l (spanW x e) (fun y hy => ho y (by simp [hy])) h)

/-- Everything is read as it was written; Tell is at most T, and nothing is bad. -/
def AllRead (b : List Nat) (T : Int) : List Wr → St → Prop
  | [], _ => True
  | x :: l, s => (readW b x s).1 = x.v ∧ Inv (readW b x s).2 ∧ (readW b x s).2.bad = false ∧ tellZ (readW b x s).2 ≤ T ∧ AllRead b T l (readW b x s).2

theorem AllRead.mono {b : List Nat} {T T' : Int} (h : T ≤ T') : ∀ (l : List Wr) (s : St), AllRead b T l s → AllRead b T' l s
  | [], _, _ => trivial
  | _ :: l, _, ⟨h1, h2, h3, h4, h5⟩ => ⟨h1, h2, h3, Int.le_trans h4 h, AllRead.mono h l _ h5⟩

/-- What holds behind all of it. -/
structure Behind (b : List Nat) (l : List Wr) (s : St) (e : Sp) : Prop where
  rel : Rel b (afterL b l s) (spansL l e)
  inv : Inv (afterL b l s)
  raw : (afterL b l s).raw = s.raw + rawsN l
  bad : (afterL b l s).bad = false
  tell : tellZ s ≤ tellZ (afterL b l s)
  all : AllRead b (tellZ (afterL b l s)) l s

theorem behind {b : List Nat} (hb : Bytes b) : ∀ (l : List Wr) (s : St) (e : Sp), (∀ x ∈ l, okW x) → Rel b s e → Inv s → s.bad = false → In b (spansL l e) → bitsN b s.raw (rawsN l) = rawsV l → Behind b l s e
  | [], s, e, _, hr, hi, hbad, _, _ => ⟨hr, hi, rfl, hbad, Int.le_refl _, trivial⟩
  | x :: l, s, e, ho, hr, hi, hbad, hin, hraw => by
    have hx := ho x (by simp)
    have hlt := rawV_lt hx
    have e1 : bitsN b s.raw (rawN x) = rawV x := by
      have := bitsN_mod b s.raw (rawN x) (rawsN l)
      have e2 : bitsN b s.raw (rawN x + rawsN l) = rawV x + rawsV l * 2 ^ rawN x := hraw
      rw [e2, Nat.add_mul_mod_self_right, Nat.mod_eq_of_lt hlt] at this
      exact this.symm
    have e3 : bitsN b (s.raw + rawN x) (rawsN l) = rawsV l := by
      have := bitsN_div b s.raw (rawN x) (rawsN l)
      have e2 : bitsN b s.raw (rawN x + rawsN l) = rawV x + rawsV l * 2 ^ rawN x := hraw
      rw [e2, Nat.add_mul_div_right _ _ (Nat.two_pow_pos _), Nat.div_eq_of_lt hlt, Nat.zero_add] at this
      exact this.symm
    have hf := found hb hx hr hi (spansL_in hb l _ (fun y hy => ho y (by simp [hy])) hin) e1
    have ih := behind hb l (readW b x s).2 (spanW x e) (fun y hy => ho y (by simp [hy])) hf.rel hf.inv (hf.bad.trans hbad) hin (by rw [hf.raw]; exact e3)
    refine ⟨ih.rel, ih.inv, ?_, ih.bad, Int.le_trans hf.tell ih.tell, ⟨hf.val, hf.inv, hf.bad.trans hbad, ih.tell, ih.all⟩⟩
    show (afterL b l (readW b x s).2).raw = s.raw + (rawN x + rawsN l)
    rw [ih.raw, hf.raw]; omega

/-! ### How much was written -/
def tellE (e : Sp) (R : Nat) : Int := 8 * ((e.k : Int) + 1) + 1 + R - (lenN e.rng : Int)

theorem tell_same {b : List Nat} {s : St} {e : Sp} (h : Rel b s e) (hi : Inv s) : tellZ s = tellE e s.raw := by
  have h1 := hi.cnt
  have h2 := h.front
  unfold tellZ tellE
  rw [h.rng]
  omega

/-- All that was written is read out of bytes that lie in the span and end in the bits from the end, with the same Tell, and nothing is bad. -/
theorem written_read {b : List Nat} (hb : Bytes b) {l : List Wr} (ho : ∀ x ∈ l, okW x) (hin : In b (spansL l startE)) (hraw : bitsN b 0 (rawsN l) = rawsV l) :
    AllRead b (tellE (spansL l startE) (rawsN l)) l (initS b) ∧ tellZ (afterL b l (initS b)) = tellE (spansL l startE) (rawsN l) ∧ Inv (afterL b l (initS b)) := by
  obtain ⟨_, _, _, h4, h5⟩ := initS_is b
  have h := behind hb l (initS b) startE ho (rel_start hb) (initS_inv hb) h5 hin (by rw [h4]; exact hraw)
  have e1 := tell_same h.rel h.inv
  rw [h.raw, h4, Nat.zero_add] at e1
  exact ⟨by rw [← e1]; exact h.all, e1, h.inv⟩

/-! ### Spans as they come up -/
/-- What holds of a span between two writings. -/
structure SpOk (e : Sp) : Prop where
  low : 8388608 < e.rng
  high : e.rng ≤ 2147483648
  kk : 3 ≤ e.k

theorem normE_ok : ∀ (n : Nat) (e : Sp), e.rng ≤ 2147483648 → 8388608 < e.rng * 256 ^ n → 8388608 < (normE n e).rng ∧ (normE n e).rng ≤ 2147483648 ∧ e.k ≤ (normE n e).k
  | 0, e, h1, h2 => ⟨by simpa [normE] using h2, h1, Nat.le_refl _⟩
  | n + 1, e, h1, h2 => by
    unfold normE
    split
    · rename_i hc
      obtain ⟨a1, a2, a3⟩ := normE_ok n { low := e.low * 256, rng := e.rng * 256, k := e.k + 1 } (by show e.rng * 256 ≤ _; omega) (by
        show 8388608 < e.rng * 256 * 256 ^ n
        rw [Nat.mul_assoc, Nat.mul_comm 256, ← Nat.pow_succ]; exact h2)
      exact ⟨a1, a2, Nat.le_trans (Nat.le_succ _) a3⟩
    · exact ⟨by omega, h1, Nat.le_refl _⟩

theorem normE3_ok {e : Sp} (h1 : 1 ≤ e.rng) (h2 : e.rng ≤ 2147483648) (h3 : 3 ≤ e.k) : SpOk (normE 3 e) := by
  obtain ⟨a1, a2, a3⟩ := normE_ok 3 e h2 (by omega)
  exact ⟨a1, a2, Nat.le_trans h3 a3⟩

theorem startE_ok : SpOk startE := by
  rw [startE_is]
  exact ⟨by show 8388608 < 2147483648; decide, by show 2147483648 ≤ 2147483648; decide, by show 3 ≤ 3; decide⟩

theorem narrowE_rng {e : Sp} (h : SpOk e) {fl fh ft : Nat} (h1 : fl < fh) (h3 : fh ≤ ft) (hft : ft ≤ 32768) : 1 ≤ (narrowE e fl fh ft).rng ∧ (narrowE e fl fh ft).rng ≤ e.rng := by
  have hl := h.low
  have he : 1 ≤ e.rng / ft := (Nat.le_div_iff_mul_le (by omega)).2 (by omega)
  have hm : e.rng / ft * ft ≤ e.rng := Nat.div_mul_le_self _ _
  have m1 : e.rng / ft * 1 ≤ e.rng / ft * (fh - fl) := Nat.mul_le_mul_left _ (by omega)
  have m2 : e.rng / ft * (fh - fl) ≤ e.rng / ft * ft := Nat.mul_le_mul_left _ (by omega)
  have m3 : e.rng / ft * (ft - fh) + e.rng / ft * (fh - fl) ≤ e.rng / ft * ft := by rw [← Nat.mul_add]; exact Nat.mul_le_mul_left _ (by omega)
  show 1 ≤ (if 0 < fl then e.rng / ft * (fh - fl) else e.rng - e.rng / ft * (ft - fh)) ∧ (if 0 < fl then e.rng / ft * (fh - fl) else e.rng - e.rng / ft * (ft - fh)) ≤ e.rng
  split <;> omega

theorem putE_ok {e : Sp} (h : SpOk e) {fl fh ft : Nat} (h1 : fl < fh) (h3 : fh ≤ ft) (hft : ft ≤ 32768) : SpOk (putE e fl fh ft) := by
  obtain ⟨a1, a2⟩ := narrowE_rng h h1 h3 hft
  exact normE3_ok a1 (Nat.le_trans a2 h.high) h.kk

theorem putFlagE_ok {e : Sp} (h : SpOk e) (v : Bool) {n : Nat} (h1 : 1 ≤ n) (h2 : n ≤ 15) : SpOk (putFlagE v n e) := by
  have hl := h.low
  have hh := h.high
  have hp1 : 2 ^ 1 ≤ 2 ^ n := Nat.pow_le_pow_right (by decide) h1
  have hp2 : 2 ^ n ≤ 2 ^ 15 := Nat.pow_le_pow_right (by decide) h2
  have hd1 : 1 ≤ e.rng / 2 ^ n := (Nat.le_div_iff_mul_le (by omega)).2 (by omega)
  have hd2 : e.rng / 2 ^ n < e.rng := Nat.div_lt_self (by omega) (by omega)
  refine normE3_ok ?_ ?_ ?_
  · unfold flagE
    split
    · exact hd1
    · show 1 ≤ e.rng - e.rng / 2 ^ n; omega
  · unfold flagE
    split
    · show e.rng / 2 ^ n ≤ _; omega
    · show e.rng - e.rng / 2 ^ n ≤ _; omega
  · unfold flagE
    split
    · exact h.kk
    · exact h.kk

theorem symE_ok {t : List Int} {v : Int} (h : symOk t v) {e : Sp} (he : SpOk e) : SpOk (symE t v e) := by
  obtain ⟨h1, h2, h3⟩ := h
  obtain ⟨p1, p2⟩ := sym_part h1 (v := v.toNat) (by omega)
  exact putE_ok he p1 p2 (by decide)

theorem uintE_ok {v n : Nat} (h : v < n) (h2 : n ≤ 4294967295) {e : Sp} (he : SpOk e) : SpOk (uintE v n e) := by
  unfold uintE
  split
  · exact he
  · split
    · exact putE_ok he (Nat.lt_succ_self v) h (by omega)
    · obtain ⟨_, _, s3, s4⟩ := shift_in (ft := n) (by omega) h2
      exact putE_ok he (Nat.lt_succ_self _) (part_of (by omega) h) (by omega)

theorem lapE_ok {fs decay : Int} (h : lapOk fs decay) {f : Nat} (hf : f < 32768) {e : Sp} (he : SpOk e) : SpOk (lapE fs.toNat decay.toNat f e) := by
  obtain ⟨o1, o2, o3, o4⟩ := h
  obtain ⟨a1, a2, _, _⟩ := lapAll_in (fs := fs.toNat) (decay := decay.toNat) (f := f) (by omega) (by omega)
  exact putE_ok he (by omega) (by omega) (by decide)

theorem spanW_ok {x : Wr} (h : okW x) {e : Sp} (he : SpOk e) : SpOk (spanW x e) := by
  unfold okW at h
  unfold spanW
  by_cases h0 : x.op = 0
  · rw [if_pos h0] at h ⊢
    exact symE_ok h he
  rw [if_neg h0] at h ⊢
  by_cases h1 : x.op = 1
  · rw [if_pos h1] at h ⊢
    exact putFlagE_ok he _ (by omega) (by omega)
  rw [if_neg h1] at h ⊢
  by_cases h2 : x.op = 2
  · rw [if_pos h2] at h ⊢
    exact he
  rw [if_neg h2] at h ⊢
  by_cases h3 : x.op = 3
  · rw [if_pos h3] at h ⊢
    exact uintE_ok (by omega) (by omega) he
  rw [if_neg h3] at h ⊢
  by_cases h4 : x.op = 4
  · rw [if_pos h4] at h ⊢
    exact lapE_ok h.1 h.2.1 he
  · rw [if_neg h4] at h ⊢
    exact symE_ok h he

theorem spansL_ok : ∀ {l : List Wr} {e : Sp}, (∀ x ∈ l, okW x) → SpOk e → SpOk (spansL l e)
  | [], _, _, h => h
  | x :: l, _, ho, h => spansL_ok (l := l) (fun y hy => ho y (by simp [hy])) (spanW_ok (ho x (by simp)) h)

/-! ### Tell never falls as things are written -/
theorem tellE_norm : ∀ (n : Nat) (e : Sp) (R : Nat), 1 ≤ e.rng → tellE (normE n e) R = tellE e R
  | 0, _, _, _ => rfl
  | n + 1, e, R, h => by
    unfold normE
    split
    · rw [tellE_norm n _ R (by show 1 ≤ e.rng * 256; omega)]
      unfold tellE
      simp only
      rw [lenN_256 h]
      omega
    · rfl

theorem tellE_less {e e' : Sp} {R R' : Nat} (hk : e'.k = e.k) (hr : e'.rng ≤ e.rng) (hR : R ≤ R') : tellE e R ≤ tellE e' R' := by
  have := lenN_mono hr
  unfold tellE
  rw [hk]
  omega

theorem tellE_put {e : Sp} (h : SpOk e) {fl fh ft : Nat} (h1 : fl < fh) (h3 : fh ≤ ft) (hft : ft ≤ 32768) {R R' : Nat} (hR : R ≤ R') : tellE e R ≤ tellE (putE e fl fh ft) R' := by
  obtain ⟨a1, a2⟩ := narrowE_rng h h1 h3 hft
  unfold putE
  rw [tellE_norm 3 _ R' a1]
  exact tellE_less rfl a2 hR

theorem spanW_tell {x : Wr} (h : okW x) {e : Sp} (he : SpOk e) (R : Nat) : tellE e R ≤ tellE (spanW x e) (R + rawN x) := by
  have hR : R ≤ R + rawN x := Nat.le_add_right _ _
  unfold okW at h
  unfold spanW
  by_cases h0 : x.op = 0
  · rw [if_pos h0] at h ⊢
    obtain ⟨g1, g2, g3⟩ := h
    obtain ⟨p1, p2⟩ := sym_part g1 (v := x.v.toNat) (by omega)
    exact tellE_put he p1 p2 (by decide) hR
  rw [if_neg h0] at h ⊢
  by_cases h1 : x.op = 1
  · rw [if_pos h1] at h ⊢
    have hp1 : 2 ^ 1 ≤ 2 ^ x.n.toNat := Nat.pow_le_pow_right (by decide) (by omega)
    have hp2 : 2 ^ x.n.toNat ≤ 2 ^ 15 := Nat.pow_le_pow_right (by decide) (by omega)
    have hl := he.low
    have hd1 : 1 ≤ e.rng / 2 ^ x.n.toNat := (Nat.le_div_iff_mul_le (by omega)).2 (by omega)
    have hd2 : e.rng / 2 ^ x.n.toNat < e.rng := Nat.div_lt_self (by omega) (by omega)
    unfold putFlagE
    rw [tellE_norm 3 _ _ (by unfold flagE; split; exact hd1; show 1 ≤ e.rng - e.rng / 2 ^ x.n.toNat; omega)]
    refine tellE_less ?_ ?_ hR
    · unfold flagE; split <;> rfl
    · unfold flagE
      split
      · show e.rng / 2 ^ x.n.toNat ≤ e.rng; omega
      · show e.rng - e.rng / 2 ^ x.n.toNat ≤ e.rng; omega
  rw [if_neg h1] at h ⊢
  by_cases h2 : x.op = 2
  · rw [if_pos h2] at h ⊢
    exact tellE_less rfl (Nat.le_refl _) hR
  rw [if_neg h2] at h ⊢
  by_cases h3 : x.op = 3
  · rw [if_pos h3] at h ⊢
    obtain ⟨o1, o2, o3, o4⟩ := h
    unfold uintE
    split
    · exact tellE_less rfl (Nat.le_refl _) hR
    · split
      · exact tellE_put he (Nat.lt_succ_self _) (show x.v.toNat < x.n.toNat by omega) (by omega) hR
      · obtain ⟨_, _, s3, s4⟩ := shift_in (ft := x.n.toNat) (by omega) (by omega)
        exact tellE_put he (Nat.lt_succ_self _) (part_of (by omega) (show x.v.toNat < x.n.toNat by omega)) (by omega) hR
  rw [if_neg h3] at h ⊢
  by_cases h4 : x.op = 4
  · rw [if_pos h4] at h ⊢
    obtain ⟨⟨o1, o2, o3, o4⟩, hf, _⟩ := h
    obtain ⟨a1, a2, _, _⟩ := lapAll_in (fs := x.n.toNat) (decay := x.m.toNat) (f := x.f) (by omega) (by omega)
    exact tellE_put he (by omega) (by omega) (by decide) hR
  · rw [if_neg h4] at h ⊢
    obtain ⟨g1, g2, g3⟩ := h
    obtain ⟨p1, p2⟩ := sym_part g1 (v := x.v.toNat) (by omega)
    exact tellE_put he p1 p2 (by decide) hR

theorem tellE_in {e : Sp} (h : SpOk e) (R : Nat) : 8 * ((e.k : Int) + 1) + R - 31 ≤ tellE e R ∧ tellE e R ≤ 8 * ((e.k : Int) + 1) + R - 23 := by
  have := lenN_in h.low h.high
  unfold tellE
  omega

/-! ### Bytes of a given number in the span -/
/-- What a reader goes by, but for its lowest m bits, are the highest bits of all bytes. -/
theorem code_block {b : List Nat} (hb : Bytes b) {k m : Nat} (h : 8 * (1 + k) ≤ 8 * b.length + 1 + m) : codeN b k / 2 ^ m = numN b / 2 ^ (8 * b.length + 1 + m - 8 * (1 + k)) := by
  rcases Nat.lt_or_ge k b.length with h1 | h1
  · rw [codeN_in hb (by omega), Nat.div_div_eq_div_mul, ← Nat.pow_add]
    congr 2
    omega
  · rw [codeN_out h1]
    obtain ⟨q, hq⟩ : ∃ q, 8 * b.length + 1 + m - 8 * (1 + k) = q := ⟨_, rfl⟩
    have e1 : m = (8 * (k - b.length) + 7) + q := by omega
    rw [hq, e1]
    generalize 8 * (k - b.length) + 7 = c
    rw [Nat.pow_add, ← Nat.div_div_eq_div_mul, Nat.mul_div_cancel _ (Nat.two_pow_pos _)]

/-- Bytes whose highest bits are the span's first block lie in the span; below them there is room for the bits from the end, where Tell allows it. -/
theorem done_in {b : List Nat} (hb : Bytes b) {e : Sp} (h : SpOk e) {R : Nat} (ht : tellE e R ≤ 8 * (b.length : Int)) :
    R + 8 * (1 + e.k) ≤ 8 * b.length + 1 + (lenN e.rng - 2) ∧
    (numN b / 2 ^ (8 * b.length + 1 + (lenN e.rng - 2) - 8 * (1 + e.k)) = firstE e.low (lenN e.rng - 2) / 2 ^ (lenN e.rng - 2) → In b e) := by
  have hl := lenN_in h.low h.high
  have hr : R + 8 * (1 + e.k) ≤ 8 * b.length + 1 + (lenN e.rng - 2) := by
    unfold tellE at ht
    omega
  exact ⟨hr, fun hc => block_in (free_bits (by omega)) ((code_block hb (by omega)).trans hc)⟩

theorem raws_of_num {b : List Nat} (hb : Bytes b) (R : Nat) : bitsN b 0 R = numN b % 2 ^ R := by
  rw [bitsN_is hb, Nat.pow_zero, Nat.div_one]

end Go.Proofs.Ytinjkffkkmbioaa
