/- Packets as plain lists of numbers: how they come up, frame by frame, length by length. Nothing here is of any program. -/
import Derived.Test.YtgiellpepnbpcaaDoorTocN
namespace Go.Proofs.YtgiellpepnbpcaaDoor

theorem flatN_snoc : ∀ (fs : List (List Nat)) (f : List Nat), flatN (fs ++ [f]) = flatN fs ++ f
  | [], f => by show f ++ [] = [] ++ f; simp
  | g :: fs, f => by
    show g ++ flatN (fs ++ [f]) = (g ++ flatN fs) ++ f
    rw [flatN_snoc fs f, List.append_assoc]

theorem flatN_take {fs : List (List Nat)} {i : Nat} {f : List Nat} (h : fs[i]? = some f) : flatN (fs.take (i + 1)) = flatN (fs.take i) ++ f := by
  rw [List.take_add_one, h]
  exact flatN_snoc _ f

theorem flatN_all (fs : List (List Nat)) : flatN (fs.take fs.length) = flatN fs := by rw [List.take_length]

theorem putsN_snoc : ∀ (l : List Nat) (n : Nat), putsN (l ++ [n]) = putsN l ++ putN n
  | [], n => by show putN n ++ [] = [] ++ putN n; simp
  | m :: l, n => by
    show putN m ++ putsN (l ++ [n]) = (putN m ++ putsN l) ++ putN n
    rw [putsN_snoc l n, List.append_assoc]

/-- The lengths of the first i frames. -/
def lensTo (fs : List (List Nat)) (i : Nat) : List Nat := (fs.take i).map List.length

theorem lensTo_snoc {fs : List (List Nat)} {i : Nat} {f : List Nat} (h : fs[i]? = some f) : lensTo fs (i + 1) = lensTo fs i ++ [f.length] := by
  unfold lensTo
  rw [List.take_add_one, h]
  simp

theorem lensOf_to : ∀ (fs : List (List Nat)), lensOf fs = lensTo fs (fs.length - 1)
  | [] => rfl
  | [_] => rfl
  | f :: g :: fs => by
    have ih := lensOf_to (g :: fs)
    show f.length :: lensOf (g :: fs) = _
    rw [ih]
    unfold lensTo
    show f.length :: ((g :: fs).take (fs.length + 1 - 1)).map List.length = ((f :: g :: fs).take (fs.length + 1 + 1 - 1)).map List.length
    rw [show fs.length + 1 + 1 - 1 = (fs.length + 1 - 1) + 1 by omega, List.take_succ_cons]
    rfl

/-- Are the first i of the first one's length? -/
def alikeTo (fs : List (List Nat)) (i : Nat) : Bool := (fs.take i).all fun f => decide (f.length = (fs[0]?.getD []).length)

theorem alikeTo_snoc {fs : List (List Nat)} {i : Nat} {f : List Nat} (h : fs[i]? = some f) : alikeTo fs (i + 1) = (alikeTo fs i && decide (f.length = (fs[0]?.getD []).length)) := by
  unfold alikeTo
  rw [List.take_add_one, h]
  simp

theorem alikeTo_one (fs : List (List Nat)) : alikeTo fs 1 = true := by
  unfold alikeTo
  cases fs with
  | nil => rfl
  | cons f fs => simp

theorem alikeTo_all (fs : List (List Nat)) : alikeTo fs fs.length = alikeN fs := by
  unfold alikeTo
  rw [List.take_length]
  cases fs with
  | nil => rfl
  | cons f fs => simp [alikeN]

theorem padBytes_up (p k : Nat) (h : k ≤ p / 254) : padBytes p = List.replicate k 255 ++ (List.replicate (p / 254 - k) 255 ++ [p % 254]) := by
  unfold padBytes
  rw [← List.append_assoc, List.replicate_append_replicate, show k + (p / 254 - k) = p / 254 by omega]

theorem replicate_snoc (n c : Nat) : List.replicate (n + 1) c = List.replicate n c ++ [c] := List.replicate_succ'

/-- The bytes of a packet are bytes. -/
theorem flatN_bytes {fs : List (List Nat)} (h : ∀ f ∈ fs, ∀ x ∈ f, x < 256) : ∀ x ∈ flatN fs, x < 256 := by
  induction fs with
  | nil => intro x hx; cases hx
  | cons f fs ih =>
    intro x hx
    have hx' : x ∈ f ++ flatN fs := hx
    rcases List.mem_append.1 hx' with h1 | h1
    · exact h f (by simp) x h1
    · exact ih (fun g hg => h g (by simp [hg])) x h1

theorem putsN_bytes {l : List Nat} (h : ∀ n ∈ l, n ≤ 1275) : ∀ x ∈ putsN l, x < 256 := by
  induction l with
  | nil => intro x hx; cases hx
  | cons n l ih =>
    intro x hx
    have hx' : x ∈ putN n ++ putsN l := hx
    rcases List.mem_append.1 hx' with h1 | h1
    · exact putN_bytes (h n (by simp)) x h1
    · exact ih (fun m hm => h m (by simp [hm])) x h1

theorem padBytes_bytes {p : Nat} : ∀ x ∈ padBytes p, x < 256 := by
  intro x hx
  unfold padBytes at hx
  rcases List.mem_append.1 hx with h1 | h1
  · have := List.eq_of_mem_replicate h1; omega
  · have : x = p % 254 := by simpa using h1
    omega

/-- The first byte, code 3's byte: bytes. -/
theorem codeByte_lt {p : Pk} (h : GoodP p) : codeByte p < 256 := by
  have := h.few
  unfold codeByte
  split <;> split <;> omega

theorem packT_bytes {p : Pk} (h : GoodP p) (hb : ∀ f ∈ p.frames, ∀ x ∈ f, x < 256) {t : List Nat} (ht : ∀ x ∈ t, x < 256) : ∀ x ∈ packT p t, x < 256 := by
  have hf := flatN_bytes hb
  have hp := putsN_bytes (l := lensOf p.frames) fun n hn => by
    obtain ⟨f, hf, e⟩ := lensOf_mem hn
    rw [← e]
    exact h.short f hf
  have d0 := (head_in h (c := 0) (by decide)).2.2.2
  have d1 := (head_in h (c := 1) (by decide)).2.2.2
  have d2 := (head_in h (c := 2) (by decide)).2.2.2
  have d3 := (head_in h (c := 3) (by decide)).2.2.2
  have hc := codeByte_lt h
  intro x hx
  unfold packT at hx
  split at hx
  · rcases List.mem_cons.1 hx with h1 | h1
    · omega
    · exact hf x h1
  split at hx
  · rcases List.mem_cons.1 hx with h1 | h1
    · omega
    · exact hf x h1
  split at hx
  · rcases List.mem_cons.1 hx with h1 | h1
    · omega
    · rcases List.mem_append.1 h1 with h2 | h2
      · exact hp x h2
      · exact hf x h2
  · rcases List.mem_cons.1 hx with h1 | h1
    · omega
    · rcases List.mem_cons.1 h1 with h2 | h2
      · omega
      · rcases List.mem_append.1 h2 with h3 | h3
        · split at h3
          · cases h3
          · exact padBytes_bytes x h3
        · rcases List.mem_append.1 h3 with h4 | h4
          · split at h4
            · cases h4
            · exact hp x h4
          · rcases List.mem_append.1 h4 with h5 | h5
            · exact hf x h5
            · exact ht x h5

/-- A packet's last bytes are its padding. -/
theorem packT_end {p : Pk} {t : List Nat} (ht : t.length = p.pad) : ∃ q, packT p t = q ++ t ∧ ∀ t' : List Nat, t'.length = p.pad → packT p t' = q ++ t' := by
  unfold packT
  by_cases c1 : p.pad = 0 ∧ p.frames.length = 1
  · refine ⟨headN p :: flatN p.frames, ?_, fun t' ht' => ?_⟩
    · rw [if_pos c1, List.eq_nil_of_length_eq_zero (show t.length = 0 by omega), List.append_nil]
    · rw [if_pos c1, List.eq_nil_of_length_eq_zero (show t'.length = 0 by omega), List.append_nil]
  · simp only [if_neg c1]
    by_cases c2 : p.pad = 0 ∧ p.frames.length = 2 ∧ alikeN p.frames = true
    · refine ⟨(headN p + 1) :: flatN p.frames, ?_, fun t' ht' => ?_⟩
      · rw [if_pos c2, List.eq_nil_of_length_eq_zero (show t.length = 0 by omega), List.append_nil]
      · rw [if_pos c2, List.eq_nil_of_length_eq_zero (show t'.length = 0 by omega), List.append_nil]
    · simp only [if_neg c2]
      by_cases c3 : p.pad = 0 ∧ p.frames.length = 2
      · refine ⟨(headN p + 2) :: (putsN (lensOf p.frames) ++ flatN p.frames), ?_, fun t' ht' => ?_⟩
        · rw [if_pos c3, List.eq_nil_of_length_eq_zero (show t.length = 0 by omega), List.append_nil]
        · rw [if_pos c3, List.eq_nil_of_length_eq_zero (show t'.length = 0 by omega), List.append_nil]
      · simp only [if_neg c3]
        refine ⟨(headN p + 3) :: codeByte p :: ((if p.pad = 0 then [] else padBytes p.pad) ++ ((if alikeN p.frames = true then [] else putsN (lensOf p.frames)) ++ flatN p.frames)), ?_, fun t' _ => ?_⟩
        · simp only [List.cons_append, List.append_assoc]
        · simp only [List.cons_append, List.append_assoc]

end Go.Proofs.YtgiellpepnbpcaaDoor
