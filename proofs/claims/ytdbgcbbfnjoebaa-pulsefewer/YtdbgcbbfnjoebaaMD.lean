/- Texts put together: PulseE PulseF PulseG PulseH PulseI. -/
import Derived.Test.YtdbgcbbfnjoebaaMC
import Derived.Test.YtdbgcbbfnjoebaaPulseN
import Derived.Test.YtdbgcbbfnjoebaaNumA
import Derived.BigQuiet
import Derived.Test.YtdbgcbbfnjoebaaPulseM
import Derived.Test.YtdbgcbbfnjoebaaRwJ
/- The heap of samples and the list that it stands for: what is on top, what a round does. Nothing here is of any program. -/
namespace Go.Proofs.Ytdbgcbbfnjoebaa
open Go.RowKit

/-- The first n samples are the places 0 .. n - 1, in some order, each with what a tells. -/
def Held (n : Nat) (e : Nat → Sam) (a : Nat → Int) : Prop :=
  ∃ s t : Nat → Nat, (∀ k, k < n → s k < n ∧ t k < n ∧ s (t k) = k ∧ t (s k) = k) ∧ ∀ k, k < n → e k = ((s k : Int), a (s k))

theorem Held.shuf {n : Nat} {e e' : Nat → Sam} {a : Nat → Int} (h : Held n e a) (k : Shuf n e e') : Held n e' a := by
  obtain ⟨s, t, h1, h2⟩ := h
  obtain ⟨⟨u, v, k1, k2⟩, _⟩ := k
  refine ⟨fun i => s (u i), fun i => v (t i), fun i hi => ?_, fun i hi => (k2 i hi).trans (h2 _ (k1 i hi).1)⟩
  obtain ⟨a1, a2, a3, a4⟩ := k1 i hi
  obtain ⟨b1, b2, b3, b4⟩ := h1 i hi
  obtain ⟨c1, c2, c3, c4⟩ := k1 (t i) b2
  obtain ⟨d1, d2, d3, d4⟩ := h1 (u i) a1
  exact ⟨d1, c2, by show s (u (v (t i))) = i; rw [c3, b3], by show v (t (s (u i))) = i; rw [d4, a4]⟩

theorem Held.pl {n : Nat} {e : Nat → Sam} {a : Nat → Int} (h : Held n e a) (hn : n ≤ 1000) : Pl n e := fun k hk => by
  obtain ⟨s, t, h1, h2⟩ := h
  rw [h2 k hk]
  have := (h1 k hk).1
  show 0 ≤ (s k : Int) ∧ (s k : Int) < 1000
  omega

theorem Held.congr {n : Nat} {e : Nat → Sam} {a b : Nat → Int} (h : Held n e a) (hab : ∀ k, k < n → a k = b k) : Held n e b := by
  obtain ⟨s, t, h1, h2⟩ := h
  exact ⟨s, t, h1, fun k hk => by rw [h2 k hk, hab _ (h1 k hk).1]⟩

theorem Held.congrE {n : Nat} {e f : Nat → Sam} {a : Nat → Int} (h : Held n e a) (hef : ∀ k, k < n → e k = f k) : Held n f a := by
  obtain ⟨s, t, h1, h2⟩ := h
  exact ⟨s, t, h1, fun k hk => by rw [← hef k hk, h2 k hk]⟩

/-- One more place. -/
theorem Held.longer {n : Nat} {e : Nat → Sam} {a : Nat → Int} (h : Held n e a) : Held (n + 1) (putF e n ((n : Int), a n)) a := by
  obtain ⟨s, t, h1, h2⟩ := h
  refine ⟨fun k => if k = n then n else s k, fun k => if k = n then n else t k, fun k hk => ?_, fun k hk => ?_⟩
  · by_cases hkn : k = n
    · subst hkn
      simp
    · obtain ⟨b1, b2, b3, b4⟩ := h1 k (by omega)
      have : s k ≠ n := by omega
      have : t k ≠ n := by omega
      simp [*]
      omega
  · unfold putF
    by_cases hkn : k = n
    · subst hkn
      simp
    · simp [hkn, h2 k (by omega)]

theorem Shuf.wider {n : Nat} {e e' : Nat → Sam} (h : Shuf n e e') : Shuf (n + 1) e e' := by
  obtain ⟨⟨s, t, h1, h2⟩, h3⟩ := h
  refine ⟨⟨fun k => if k = n then n else s k, fun k => if k = n then n else t k, fun k hk => ?_, fun k hk => ?_⟩, fun k hk => h3 k (by omega)⟩
  · by_cases hkn : k = n
    · subst hkn
      simp
    · obtain ⟨b1, b2, b3, b4⟩ := h1 k (by omega)
      have : s k ≠ n := by omega
      have : t k ≠ n := by omega
      simp [*]
      omega
  · by_cases hkn : k = n
    · subst hkn
      simp [h3 k (Nat.le_refl _)]
    · simp [hkn, h2 k (by omega)]

theorem push_shuf (e : Nat → Sam) (n : Nat) (x : Sam) : Shuf (n + 1) (putF e n x) (pushF e n x) := up_shuf keyS (n + 1) (n + 1) n _ (Nat.lt_succ_self n)

theorem push_ok {e : Nat → Sam} {n : Nat} (x : Sam) (h : HeapOk keyS 0 n e) : HeapOk keyS 0 (n + 1) (pushF e n x) := by
  refine up_ok keyS (n + 1) (n + 1) n _ (by omega) (by omega) ⟨fun c h1 h2 h3 => ?_, fun h0 c h1 h2 h3 => by omega⟩
  unfold putF
  rw [if_neg (by omega), if_neg (by omega)]
  exact h c h1 (by omega) (Nat.zero_le _)

/-- The list that the heap stands for. -/
structure HOk (e : Nat → Sam) (l : List Int) : Prop where
  heap : HeapOk keyS 0 l.length e
  held : Held l.length e (fun k => absI (l[k]?.getD 0))

theorem HOk.nil (e : Nat → Sam) : HOk e [] := ⟨fun _ _ h2 => absurd h2 (Nat.not_lt_zero _), fun k => k, fun k => k, fun _ h => absurd h (Nat.not_lt_zero _), fun _ h => absurd h (Nat.not_lt_zero _)⟩

theorem HOk.pl {e : Nat → Sam} {l : List Int} (h : HOk e l) (hn : l.length ≤ 1000) : Pl l.length e := h.held.pl hn

theorem HOk.laid {e : Nat → Sam} {l : List Int} (h : HOk e l) (v : Int) : HOk (pushF e l.length ((l.length : Int), absI v)) (l ++ [v]) := by
  have hl : (l ++ [v]).length = l.length + 1 := by simp
  refine ⟨by rw [hl]; exact push_ok _ h.heap, ?_⟩
  rw [hl]
  have h1 := (h.held.congr (b := fun k => absI ((l ++ [v])[k]?.getD 0)) (fun k hk => by
    show _ = absI ((l ++ [v])[k]?.getD 0)
    rw [List.getElem?_append_left hk])).longer
  have e1 : absI ((l ++ [v])[l.length]?.getD 0) = absI v := by simp
  rw [e1] at h1
  exact h1.shuf (push_shuf e l.length _)

/-- What is on top. -/
theorem HOk.root {e : Nat → Sam} {l : List Int} (h : HOk e l) (h0 : 0 < l.length) (hn : l.length ≤ 1000) : e 0 = (((topN l l.length : Nat) : Int), absI (l[topN l l.length]?.getD 0)) := by
  have hpl := h.pl hn
  obtain ⟨s, t, h1, h2⟩ := h.held
  have hq : s 0 < l.length := (h1 0 h0).1
  have hmax : ∀ j, j < l.length → absI (l[j]?.getD 0) ≤ absI (l[s 0]?.getD 0) ∧ (s 0 < j → absI (l[j]?.getD 0) < absI (l[s 0]?.getD 0)) := fun j hj => by
    obtain ⟨_, b2, b3, _⟩ := h1 j hj
    have hk := root_least h.heap (t j) (t j) (Nat.le_refl _) b2
    rw [h2 0 h0, h2 (t j) b2, b3] at hk
    unfold keyS at hk
    have hk : -(absI (l[s 0]?.getD 0) * 1000 + (s 0 : Int)) ≤ -(absI (l[j]?.getD 0) * 1000 + (j : Int)) := hk
    omega
  have ht := topN_lt l l.length h0
  have hm1 := hmax _ ht
  have hm2 := topN_max l l.length (s 0) hq
  have : s 0 = topN l l.length := by
    rcases Nat.lt_trichotomy (s 0) (topN l l.length) with h3 | h3 | h3
    · have := hm1.2 h3; omega
    · exact h3
    · have := hm2.2 h3; omega
  rw [h2 0 h0, this]

/-- A round: the first is taken, and laid back with one less. -/
def roundF (e : Nat → Sam) (n : Nat) : Nat → Sam := pushF (downF keyS n (swapF e 0 n) 0 n).1 n ((downF keyS n (swapF e 0 n) 0 n).1 n |>.1, ((downF keyS n (swapF e 0 n) 0 n).1 n).2 - 1)

theorem popF_last (e : Nat → Sam) (n : Nat) : (downF keyS n (swapF e 0 n) 0 n).1 n = e 0 := by
  rcases Nat.eq_zero_or_pos n with rfl | hn
  · show swapF e 0 0 0 = e 0
    exact swapF_left e 0 0
  · rw [(down_shuf keyS n n 0 (swapF e 0 n) hn).far n (Nat.le_refl _)]
    exact swapF_right e 0 n

theorem HOk.round {e : Nat → Sam} {l : List Int} {n : Nat} (h : HOk e l) (hl : l.length = n + 1) (hn : n + 1 ≤ 1000) (h0 : 0 < pulsesN l) : HOk (roundF e n) (decI l) := by
  have hlen := decI_len l
  obtain ⟨_, ht, hp⟩ := top_pos h0
  have htop := h.root (by omega) (by omega)
  have hheap := h.heap
  rw [hl] at hheap
  have hok : HeapOk keyS 0 n (downF keyS n (swapF e 0 n) 0 n).1 := fix_root (n := n) fun c h1 h2 h3 => by
    rw [swapF_else e (by omega) (by omega), swapF_else e (by omega) (by omega)]
    exact hheap c h1 (by omega) (Nat.zero_le _)
  refine ⟨by rw [hlen, hl]; exact push_ok _ hok, ?_⟩
  rw [hlen, hl]
  have hsh : Shuf (n + 1) e (downF keyS n (swapF e 0 n) 0 n).1 := by
    refine (Shuf.swap (Nat.succ_pos n) (Nat.lt_succ_self n) e).trans ?_
    rcases Nat.eq_zero_or_pos n with rfl | hn0
    · exact .refl _ _
    · exact (down_shuf keyS n n 0 (swapF e 0 n) hn0).wider
  have hheld := h.held
  rw [hl] at hheld
  have hh := hheld.shuf hsh
  refine Held.shuf ?_ (push_shuf _ n _)
  have hlast := popF_last e n
  obtain ⟨s, t, h1, h2⟩ := hh
  have hn1 := h2 n (Nat.lt_succ_self n)
  rw [hlast, htop] at hn1
  rw [hlast, htop]
  have ht' := ht
  rw [hl] at ht
  have hsn : s n = topN l l.length := by
    have : ((topN l l.length : Nat) : Int) = (s n : Int) := congrArg Prod.fst hn1
    omega
  refine ⟨s, t, h1, fun k hk => ?_⟩
  unfold putF
  by_cases hkn : k = n
  · subst hkn
    rw [if_pos rfl, hsn]
    have e1 : (l.set (topN l l.length) (decV (l[topN l l.length]?.getD 0)))[topN l l.length]?.getD 0 = decV (l[topN l l.length]?.getD 0) := by
      rw [List.getElem?_set_self ht']
      rfl
    show (((topN l l.length : Nat) : Int), absI (l[topN l l.length]?.getD 0) - 1) = (((topN l l.length : Nat) : Int), absI ((l.set (topN l l.length) (decV (l[topN l l.length]?.getD 0)))[topN l l.length]?.getD 0))
    rw [e1, abs_dec hp]
  · rw [if_neg hkn, h2 k hk]
    have hne : topN l l.length ≠ s k := fun hx => hkn (by
      have a1 := (h1 k hk).2.2.2
      have a2 := (h1 n (Nat.lt_succ_self n)).2.2.2
      rw [← a1, ← a2, hsn, hx])
    show ((s k : Int), absI (l[s k]?.getD 0)) = ((s k : Int), absI ((l.set (topN l l.length) (decV (l[topN l l.length]?.getD 0)))[s k]?.getD 0))
    rw [List.getElem?_set_ne hne]

/-- What the samples tell, with the old signs. -/
def signI (p v : Int) : Int := if v < 0 then -p else p
theorem sign_is {v u : Int} (h : Lessened v u) : signI (absI u) v = u := by
  unfold Lessened at h
  unfold signI absI
  split <;> split <;> omega

end Go.Proofs.Ytdbgcbbfnjoebaa

/- Package pulse, the small calls: sizes, signs, clamped, lengths; pulses counted; a block looked at. -/
namespace Go.Proofs.Ytdbgcbbfnjoebaa
open Go.RowKit

theorem unsigned_any (v : Int) (w : World) (h1 : -1000000 ≤ v) (h2 : v ≤ 1000000) : Calls Try.prog 59 #[.int .i64 v] w fun e w' => e = .returned (.int .i64 (absI v)) ∧ w' = w := by
  have HA : Hid (absI v = if v < 0 then -v else v) := rfl
  go_enter Try.func59, Try.ntmps59
  go_wp2
  all_goals
    go_ret
    refine ⟨ret_int ?_, rfl⟩
    rw [HA.out]
    try unfold wrap64 at *
    split <;> omega

theorem withSign_any (p v : Int) (w : World) (h1 : -1000000 ≤ p) (h2 : p ≤ 1000000) : Calls Try.prog 61 #[.int .i64 p, .int .i64 v] w fun e w' => e = .returned (.int .i64 (signI p v)) ∧ w' = w := by
  have HA : Hid (signI p v = if v < 0 then -p else p) := rfl
  go_enter Try.func61, Try.ntmps61
  go_wp2
  all_goals
    go_ret
    refine ⟨ret_int ?_, rfl⟩
    rw [HA.out]
    try unfold wrap64 at *
    split <;> omega

theorem pclamp_any (v lo hi : Int) (w : World) (h : lo ≤ hi) : Calls Try.prog 33 #[.int .i64 v, .int .i64 lo, .int .i64 hi] w fun e w' => e = .returned (.int .i64 (clampI v lo hi)) ∧ w' = w := by
  have HA : Hid (clampI v lo hi = clampI v lo hi ∧ lo ≤ hi) := ⟨rfl, h⟩
  clear h
  go_enter Try.func33, Try.ntmps33
  go_wp2
  all_goals
    go_ret
    refine ⟨ret_int ?_, rfl⟩
    have := HA.out.2
    unfold clampI
    repeat' split
    all_goals omega

theorem pclampInt_any (v lo hi : Int) (w : World) (h : lo ≤ hi) : Calls Try.prog 35 #[.int .i64 v, .int .i64 lo, .int .i64 hi] w fun e w' => e = .returned (.int .i64 (clampI v lo hi)) ∧ w' = w := by
  have HA : Hid (clampI v lo hi = clampI v lo hi ∧ lo ≤ hi) := ⟨rfl, h⟩
  clear h
  go_enter Try.func35, Try.ntmps35
  go_wp2
  all_goals
    go_ret
    refine ⟨ret_int ?_, rfl⟩
    have := HA.out.2
    unfold clampI
    repeat' split
    all_goals omega

def lenB (n : Int) : Bool := decide (16 ≤ n ∧ n ≤ 480 ∧ n % 16 = 0)

theorem goodLength_any (n : Int) (w : World) : Calls Try.prog 25 #[.int .i64 n] w fun e w' => e = .returned (.bool (lenB n)) ∧ w' = w := by
  obtain ⟨b, hb⟩ : ∃ b, lenB n = b := ⟨_, rfl⟩
  have HB : Hid (lenB n = b) := hb
  rw [hb]
  clear hb
  by_cases h1 : 16 ≤ n
  · by_cases h2 : n ≤ 480
    · by_cases h3 : n % 16 = 0
      · have e : b = true := by rw [← HB.out]; exact decide_eq_true ⟨h1, h2, h3⟩
        have h4 : (n % 16 == 0) = true := by rw [h3]; rfl
        subst e
        clear HB h3
        go_enter Try.func25, Try.ntmps25
        go_wp2
        go_ret
        exact ⟨rfl, rfl⟩
      · have e : b = false := by rw [← HB.out]; exact decide_eq_false (fun h => h3 h.2.2)
        have h4 : (n % 16 == 0) = false := beq_eq_false_iff_ne.2 h3
        subst e
        clear HB h3
        go_enter Try.func25, Try.ntmps25
        go_wp2
        go_ret
        exact ⟨rfl, rfl⟩
    · have e : b = false := by rw [← HB.out]; exact decide_eq_false (fun h => h2 h.2.1)
      subst e
      clear HB
      go_enter Try.func25, Try.ntmps25
      go_wp2
      go_ret
      exact ⟨rfl, rfl⟩
  · have e : b = false := by rw [← HB.out]; exact decide_eq_false (fun h => h1 h.1)
    subst e
    clear HB
    go_enter Try.func25, Try.ntmps25
    go_wp2
    go_ret
    exact ⟨rfl, rfl⟩

/-! ### Pulses counted -/
/-- The numbers zs lie in block g from o on. -/
def Sg (w : World) (g o : Nat) (zs : List Int) : Prop := ∀ i, i < zs.length → w.cell? ⟨g, o + i, none⟩ = some (.int .i64 (zs[i]?.getD 0))
theorem Sg.of_cells {w w' : World} {g o : Nat} {zs : List Int} (h : Sg w g o zs) (hb : ∀ i, w'.cell? ⟨g, i, none⟩ = w.cell? ⟨g, i, none⟩) : Sg w' g o zs := fun i hi => (hb _).trans (h i hi)
theorem Sg.of_block {w w' : World} {g o : Nat} {zs : List Int} (h : Sg w g o zs) (hb : w'.heap[g]? = w.heap[g]?) : Sg w' g o zs := h.of_cells fun _ => World.cell?_of_block hb
theorem Sg.drewN {w : World} {g o : Nat} {zs : List Int} (h : Sg w g o zs) (k : Nat) : Sg (w.drewN k) g o zs := h.of_block rfl
theorem Sg.take {w : World} {g o : Nat} {zs : List Int} (h : Sg w g o zs) (k : Nat) : Sg w g o (zs.take k) := fun i hi => by
  rw [List.length_take] at hi
  rw [List.getElem?_take_of_lt (by omega)]
  exact h i (by omega)
theorem Sg.drop {w : World} {g o : Nat} {zs : List Int} (h : Sg w g o zs) (k : Nat) : Sg w g (o + k) (zs.drop k) := fun i hi => by
  rw [List.length_drop] at hi
  rw [List.getElem?_drop, Nat.add_assoc]
  exact h (k + i) (by omega)

def Small (zs : List Int) : Prop := ∀ x ∈ zs, -16 ≤ x ∧ x ≤ 16
theorem Small.at {zs : List Int} (h : Small zs) {i : Nat} (hi : i < zs.length) : -16 ≤ zs[i]?.getD 0 ∧ zs[i]?.getD 0 ≤ 16 := h _ (at_mem hi)
theorem Small.take {zs : List Int} (h : Small zs) (k : Nat) : Small (zs.take k) := fun x hx => h x (List.mem_of_mem_take hx)
theorem Small.drop {zs : List Int} (h : Small zs) (k : Nat) : Small (zs.drop k) := fun x hx => h x (List.mem_of_mem_drop hx)

theorem pulsesN_cons (x : Int) (l : List Int) : pulsesN (x :: l) = absI x + pulsesN l := rfl
theorem pulsesN_append (l m : List Int) : pulsesN (l ++ m) = pulsesN l + pulsesN m := by unfold pulsesN; rw [List.map_append, sumP_append]
theorem pulsesN_nil : pulsesN [] = 0 := rfl
theorem pulsesN_few {zs : List Int} (h : Small zs) : pulsesN zs ≤ 16 * zs.length := by
  induction zs with
  | nil => exact Int.le_refl _
  | cons x l ih =>
    have h1 := ih (fun y hy => h y (by simp [hy]))
    have h2 := h x (by simp)
    rw [pulsesN_cons, List.length_cons]
    have : absI x ≤ 16 := by unfold absI; split <;> omega
    omega
theorem pulsesN_step {zs : List Int} {k : Nat} (h : k < zs.length) : pulsesN (zs.take (k + 1)) = pulsesN (zs.take k) + absI (zs[k]?.getD 0) := by
  rw [List.take_add_one, List.getElem?_eq_getElem h, pulsesN_append]
  show _ + (absI zs[k] + 0) = _ + absI zs[k]
  omega
theorem pulsesN_mem {zs : List Int} {x : Int} (h : x ∈ zs) : absI x ≤ pulsesN zs := by
  induction zs with
  | nil => cases h
  | cons y l ih =>
    rw [pulsesN_cons]
    have h1 := pulsesN_nonneg l
    have h2 := absI_nonneg y
    rcases List.mem_cons.1 h with rfl | h
    · omega
    · have := ih h; omega

set_option maxHeartbeats 400000 in
theorem together_any (g o n cap : Nat) (zs : List Int) (w : World) (hz : Sg w g o zs) (hl : zs.length = n) (hn : n ≤ 480) (hs : Small zs) :
    Calls Try.prog 52 #[.slice (some ⟨g, o, none⟩) n cap] w fun e w' => e = .returned (.int .i64 (pulsesN zs)) ∧ w' = w := by
  have HC : Hid (∀ i, i < n → w.cell? ⟨g, o + i, none⟩ = some (.int .i64 (zs[i]?.getD 0))) := fun i hi => hz i (by omega)
  have HS : Hid (Small zs ∧ zs.length = n ∧ n ≤ 480) := ⟨hs, hl, hn⟩
  have HT : Hid (∀ k, k ≤ n → 0 ≤ pulsesN (zs.take k) ∧ pulsesN (zs.take k) ≤ 7680) := fun k hk => by
    have := pulsesN_few (hs.take k)
    rw [List.length_take] at this
    have := pulsesN_nonneg (zs.take k)
    omega
  have HE : Hid (pulsesN (zs.take n) = pulsesN zs) := by show _ = _; rw [List.take_of_length_le (by omega)]
  clear hz hs hl hn
  go_enter Try.func52, Try.ntmps52
  go_wp2
  go_loop [3, 8] (fun s i => ∃ (k : Nat) (t : Int), k ≤ n ∧ i = .int .i64 k ∧ s = .int .i64 t ∧ Hid (t = pulsesN (zs.take k))) (fun _ i => n - (intOf i).toNat)
  case atStart => exact ⟨0, 0, Nat.zero_le _, rfl, rfl, rfl⟩
  case round =>
    obtain ⟨k, t, hk, rfl, rfl, HQ⟩ := hrel
    have ht := HT.out k hk
    rw [← HQ.out] at ht
    by_cases hlt : k < n
    · have hck := HC.out k hlt
      have hx := HS.out.1.at (i := k) (by rw [HS.out.2.1]; exact hlt)
      have HST : Hid (pulsesN (zs.take (k + 1)) = t + absI (zs[k]?.getD 0)) := by
        have := pulsesN_step (zs := zs) (k := k) (by rw [HS.out.2.1]; exact hlt)
        rw [← HQ.out] at this
        exact this
      generalize zs[k]?.getD 0 = x at hck hx HST
      obtain ⟨y, hy⟩ : ∃ y, absI x = y := ⟨_, rfl⟩
      have HY : Hid (absI x = y) := hy
      have hyb : 0 ≤ y ∧ y ≤ 16 := by rw [← hy]; unfold absI; split <;> omega
      rw [hy] at HST
      clear hy
      have HX : Hid (-16 ≤ x ∧ x ≤ 16) := hx
      have hkb : (k : Int) < 480 := by have := HS.out.2.2; omega
      clear hx HQ HT
      go_wp2_with (go_at_call 59; refine (unsigned_any x _ (by have := HX.out; omega) (by have := HX.out; omega)).mono ?_; rw [HY.out]; rintro e w' ⟨rfl, rfl⟩)
      go_round
      case rel => exact ⟨k + 1, t + y, by omega, by go_num, by go_num, HST.out.symm⟩
      case measure => simp [intOf]; omega
    · obtain rfl : k = n := by omega
      have HR : Hid (t = pulsesN zs) := HQ.out.trans HE.out
      clear HQ HT ht
      go_wp2
      go_ret
      exact ⟨ret_int HR.out, rfl⟩

set_option maxRecDepth 100000 in
set_option maxHeartbeats 400000 in
theorem goodBlock_any (g o n cap : Nat) (zs : List Int) (w : World) (hz : Sg w g o zs) (hl : zs.length = n) (hn : n ≤ 480) :
    Calls Try.prog 30 #[.slice (some ⟨g, o, none⟩) n cap] w fun e w' => e = .returned (.bool (decide (pulsesN zs ≤ 16))) ∧ w' = w := by
  have HZ : Hid (Sg w g o zs ∧ n ≤ 480 ∧ zs.length = n) := ⟨hz, hn, hl⟩
  have HC : Hid (∀ i, i < n → w.cell? ⟨g, o + i, none⟩ = some (.int .i64 (zs[i]?.getD 0))) := fun i hi => hz i (by omega)
  obtain ⟨G, hG⟩ : ∃ G, decide (pulsesN zs ≤ 16) = G := ⟨_, rfl⟩
  have HG : Hid (decide (pulsesN zs ≤ 16) = G) := hG
  rw [hG]
  have HBAD : Hid (∀ k, k < n → ¬ (-16 ≤ zs[k]?.getD 0 ∧ zs[k]?.getD 0 ≤ 16) → G = false) := fun k hk hx => by
    rw [← hG]
    refine decide_eq_false fun hle => hx ?_
    have := pulsesN_mem (at_mem (l := zs) (i := k) (by omega))
    unfold absI at this
    split at this <;> omega
  clear hz hl hn hG
  go_enter Try.func30, Try.ntmps30
  go_wp2
  go_loop [7] (fun i => ∃ k : Nat, k ≤ n ∧ i = .int .i64 k ∧ Hid (∀ j, j < k → -16 ≤ zs[j]?.getD 0 ∧ zs[j]?.getD 0 ≤ 16)) (fun i => n - (intOf i).toNat)
  case atStart => exact ⟨0, Nat.zero_le _, rfl, fun _ h => absurd h (Nat.not_lt_zero _)⟩
  case round =>
    obtain ⟨k, hk, rfl, HQ⟩ := hrel
    by_cases hlt : k < n
    · have hck := HC.out k hlt
      have HB := HBAD.out k hlt
      by_cases hx : -16 ≤ zs[k]?.getD 0 ∧ zs[k]?.getD 0 ≤ 16
      · have HX : Hid (∀ j, j < k + 1 → -16 ≤ zs[j]?.getD 0 ∧ zs[j]?.getD 0 ≤ 16) := fun j hj => by
          rcases Nat.lt_or_ge j k with h | h
          · exact HQ.out j h
          · obtain rfl : j = k := by omega
            exact hx
        generalize zs[k]?.getD 0 = x at hck hx
        obtain ⟨hx1, hx2⟩ := hx
        have hkb : (k : Int) < 480 := by have := HZ.out.2.1; omega
        clear HQ HBAD HC HB
        go_wp2
        go_round
        case rel => exact ⟨k + 1, by omega, by go_num, HX.out⟩
        case measure => simp [intOf]; omega
      · have HR : Hid (G = false) := HB hx
        generalize zs[k]?.getD 0 = x at hck hx
        clear HQ HBAD HC HB
        by_cases hx1 : x < -16
        · clear hx
          go_wp2
          all_goals
            go_ret
            exact ⟨by rw [HR.out]; rfl, rfl⟩
        · have hx2 : 16 < x := by omega
          clear hx
          go_wp2
          all_goals
            go_ret
            exact ⟨by rw [HR.out]; rfl, rfl⟩
    · obtain rfl : k = n := by omega
      have HS : Hid (Small zs) := fun x hx => by
        obtain ⟨j, hj, rfl⟩ := List.getElem_of_mem hx
        have := HQ.out j (by have := HZ.out.2.2; omega)
        rw [List.getElem?_eq_getElem hj] at this
        exact this
      have hb := pulsesN_nonneg zs
      have hb2 := pulsesN_few HS.out
      rw [HZ.out.2.2] at hb2
      have HP : Hid (0 ≤ pulsesN zs ∧ pulsesN zs ≤ 7680) := by have := HZ.out.2.1; exact ⟨hb, by omega⟩
      clear HQ HBAD HC hb hb2
      go_wp2_with (go_at_call 52; refine (together_any g o k cap zs _ HZ.out.1 HZ.out.2.2 HZ.out.2.1 HS.out).mono ?_; rintro e w' ⟨rfl, rfl⟩)
      go_ret
      exact ⟨by rw [← HG.out]; rfl, rfl⟩

end Go.Proofs.Ytdbgcbbfnjoebaa

/- Package pulse, what reads: pulses shared over samples. -/
namespace Go.Proofs.Ytdbgcbbfnjoebaa
open Go.RowKit

theorem NewRow.same {e : TypeId} {B : Nat} {w w' : World} {a : Option Addr} {zs : List Int} (h : NewRow e B w a zs) (hb : ∀ b, a = some ⟨b, 0, .none⟩ → w'.heap[b]? = w.heap[b]?) : NewRow e B w' a zs := by
  rcases h with h | ⟨b, c, ha, hB, hh, hc⟩
  · exact .inl h
  · exact .inr ⟨b, c, ha, hB, (hb b ha).trans hh, hc⟩
theorem Went.keep {S S' : Nat → Prop} {a b c : World} (h : Went S a S' b) (hb : Below b.heap.size b c) : Went S a S' c :=
  h.trans ⟨hb.os, hb.tape, hb.output, hb.size, fun k hk _ => hb.block k hk, fun _ h => .inl h⟩
theorem Went.alloc {S S' : Nat → Prop} {a b : World} (h : Went S a S' b) (o : Obj) : Went S a S' (b.alloc o) := h.keep ((Below.refl _ _).alloc (Nat.le_refl _) o)
theorem Rd.went {p g : Nat} {bs : List Nat} {s : St} {w w' : World} {S S' : Nat → Prop} (h : Rd p g bs s w) (hw : Went S w S' w') (hp : ¬ S p) (hg : bs ≠ [] → ¬ S g) : Rd p g bs s w' :=
  h.of_blocks (hw.block p h.lt hp) (fun h0 => hw.block g (h.gt h0) (hg h0))

theorem rdUint_one (b : List Nat) (s : St) : rdUint b (0 + 1) s = (0, s) := by
  unfold rdUint uintS
  rfl
theorem shareV_zero (b : List Nat) : ∀ (d : Nat) (s : St), shareV b d 0 s = (List.replicate (2 ^ d) 0, s)
  | 0, _ => rfl
  | d + 1, s => by
    have h1 := rdUint_one b s
    have h2 := shareV_zero b d s
    show ((shareV b d (rdUint b (0 + 1) s).1 (rdUint b (0 + 1) s).2).1 ++ (shareV b d (0 - (rdUint b (0 + 1) s).1) (shareV b d (rdUint b (0 + 1) s).1 (rdUint b (0 + 1) s).2).2).1,
      (shareV b d (0 - (rdUint b (0 + 1) s).1) (shareV b d (rdUint b (0 + 1) s).1 (rdUint b (0 + 1) s).2).2).2) = _
    rw [h1]
    show ((shareV b d 0 s).1 ++ (shareV b d 0 (shareV b d 0 s).2).1, (shareV b d 0 (shareV b d 0 s).2).2) = _
    rw [h2]
    show (List.replicate (2 ^ d) 0 ++ (shareV b d 0 s).1, (shareV b d 0 s).2) = _
    rw [h2]
    show (List.replicate (2 ^ d) 0 ++ List.replicate (2 ^ d) 0, s) = _
    rw [List.replicate_append_replicate, Nat.pow_succ, Nat.mul_two]

/-- The two blocks that reading pulses turns: the reader's and the row's. -/
def PG (p g : Nat) : Nat → Prop := fun j => j = p ∨ j = g

theorem went_but {p g : Nat} {w w' : World} (h : But p w w') : Went (PG p g) w (PG p g) w' := .of_but h (.inl rfl)
theorem went_set {p g : Nat} (w : World) (i : Nat) (v : Value) : Went (PG p g) w (PG p g) (w.setCell ⟨g, i, none⟩ v) := .of_but ((But.refl g w).set i v) (.inr rfl)

theorem mid_set (A C : List Int) (x y : Int) : (A ++ (x :: C)).set A.length y = A ++ (y :: C) := by
  rw [List.set_append_right _ _ (Nat.le_refl _), Nat.sub_self]
  rfl

theorem first_is {α β : Type} {x : α × β} {a : α} {b : β} (h : x = (a, b)) : x.1 = a := by rw [h]
theorem second_is {α β : Type} {x : α × β} {a : α} {b : β} (h : x = (a, b)) : x.2 = b := by rw [h]
theorem pair_is {α β : Type} (x : α × β) : ∃ a b, x = (a, b) := ⟨x.1, x.2, rfl⟩

theorem pow_pos2 (d : Nat) : 0 < 2 ^ d := Nat.pow_pos (by decide)

set_option maxRecDepth 100000 in
set_option maxHeartbeats 800000 in
theorem readShares_any (p gb g B : Nat) (bs : List Nat) (hgp : g ≠ p) (hgb : bs ≠ [] → g ≠ gb) : ∀ (d : Nat) (s : St) (k : Int) (A C : List Int) (n o cap : Nat) (w : World), Rd p gb bs s w → Inv s → s.cnt + 60 * n ≤ 100000000000000 → n = 2 ^ d → n ≤ 16 → o = A.length → n ≤ cap → 0 ≤ k → k ≤ 16 →
    NewRow 2 B w (some ⟨g, 0, none⟩) (A ++ (List.replicate n 0 ++ C)) →
    Calls Try.prog 47 #[.pointer (some ⟨p, 0, none⟩), .slice (some ⟨g, o, none⟩) n cap, .int .i64 k] w fun e w' => e = .returned (.tuple #[]) ∧ Rd p gb bs (shareV bs d k s).2 w' ∧ NewRow 2 B w' (some ⟨g, 0, none⟩) (A ++ ((shareV bs d k s).1 ++ C)) ∧ Went (PG p g) w (PG p g) w' := by
  intro d
  induction d with
  | zero =>
    intro s k A C n o cap w h hi hc hn hn16 ho hcap hk0 hk16 hr
    by_cases h0 : k = 0
    · subst h0
      have HX : Hid (Rd p gb bs s w ∧ NewRow 2 B w (some ⟨g, 0, none⟩) (A ++ ([0] ++ C))) := ⟨h, by rw [hn] at hr; exact hr⟩
      clear h hi hc hn ho hr hn16 hcap
      go_enter Try.func47, Try.ntmps47
      go_wp2
      refine bodyPost_ret (results_none rfl _ _ _) rfl ?_
      exact ⟨rfl, HX.out.1, HX.out.2, .refl _ _⟩
    · have hz : (k == 0) = false := beq_eq_false_iff_ne.2 h0
      obtain rfl : n = 1 := hn
      subst ho
      have hlt : A.length < (A ++ ([0] ++ C)).length := by simp
      have hcell := hr.cellAt hlt
      have hf := hr.frozenAt (by simp only [List.length_append, List.length_replicate]; omega) A.length
      have HX : Hid (Rd p gb bs s w ∧ NewRow 2 B w (some ⟨g, 0, none⟩) (A ++ (0 :: C))) := ⟨h, hr⟩
      clear h hi hc hr hn16 hlt h0
      go_enter Try.func47, Try.ntmps47
      go_wp2
      refine bodyPost_ret (results_none rfl _ _ _) rfl ?_
      have hw := went_set (p := p) (g := g) w A.length (.int .i64 k)
      refine ⟨rfl, HX.out.1.of_blocks ?_ ?_, ?_, hw⟩
      · exact ((But.refl g w).set A.length _).block p (fun e => hgp e.symm)
      · exact fun h0 => ((But.refl g w).set A.length _).block gb (fun e => hgb h0 e.symm)
      · have h2 := HX.out.2.set A.length k
        rw [mid_set] at h2
        exact h2
  | succ d ih =>
    intro s k A C n o cap w h hi hc hn hn16 ho hcap hk0 hk16 hr
    by_cases h0 : k = 0
    · subst h0
      have HX : Hid (Rd p gb bs (shareV bs (d + 1) 0 s).2 w ∧ NewRow 2 B w (some ⟨g, 0, none⟩) (A ++ ((shareV bs (d + 1) 0 s).1 ++ C))) := by
        show _ ∧ _
        rw [shareV_zero]
        exact ⟨h, by rw [← hn]; exact hr⟩
      clear h hi hc hn ho hr hn16 hcap ih
      go_enter Try.func47, Try.ntmps47
      go_wp2
      refine bodyPost_ret (results_none rfl _ _ _) rfl ?_
      exact ⟨rfl, HX.out.1, HX.out.2, .refl _ _⟩
    · have hz : (k == 0) = false := beq_eq_false_iff_ne.2 h0
      obtain ⟨m, hm⟩ : ∃ m, 2 ^ d = m := ⟨_, rfl⟩
      have hmp := pow_pos2 d
      rw [hm] at hmp
      have hnm : n = m + m := by rw [hn, Nat.pow_succ, Nat.mul_two, hm]
      have hs1 : m ≤ n := by omega
      have hs2 : m ≤ cap := by omega
      have hs3 : (m : Int) ≤ n := by omega
      have hs4 : (m : Int) ≤ cap := by omega
      have HS5 : Hid (¬ cap = m) := by show ¬ _; omega
      have hw6 : n - m = m := by omega
      obtain ⟨f, s1, e1⟩ : ∃ f s1, rdUint bs (k + 1) s = (f, s1) := pair_is _
      obtain ⟨V1, s2, e2⟩ : ∃ V s2, shareV bs d f s1 = (V, s2) := pair_is _
      obtain ⟨V2, s3, e3⟩ : ∃ V s3, shareV bs d (k - f) s2 = (V, s3) := pair_is _
      have eV : shareV bs (d + 1) k s = (V1 ++ V2, s3) := by
        show ((shareV bs d (rdUint bs (k + 1) s).1 (rdUint bs (k + 1) s).2).1 ++ (shareV bs d (k - (rdUint bs (k + 1) s).1) (shareV bs d (rdUint bs (k + 1) s).1 (rdUint bs (k + 1) s).2).2).1,
          (shareV bs d (k - (rdUint bs (k + 1) s).1) (shareV bs d (rdUint bs (k + 1) s).1 (rdUint bs (k + 1) s).2).2).2) = _
        rw [e1]
        show ((shareV bs d f s1).1 ++ (shareV bs d (k - f) (shareV bs d f s1).2).1, (shareV bs d (k - f) (shareV bs d f s1).2).2) = _
        rw [e2]
        show (V1 ++ (shareV bs d (k - f) s2).1, (shareV bs d (k - f) s2).2) = _
        rw [e3]
      have HU : Hid (∀ W, Rd p gb bs s W → Calls Try.prog 66 #[.pointer (some ⟨p, 0, none⟩), .int .i64 (k + 1)] W fun e w' => e = .returned (.int .i64 f) ∧ Rd p gb bs s1 w' ∧ But p W w') := fun W hW => by
        have := uint_any p gb bs s (k + 1) W hW hi (by omega)
        have ef : (((uintS bs (k + 1) s).1 : Nat) : Int) = f := (first_is e1 :)
        have es : (uintS bs (k + 1) s).2 = s1 := (second_is e1 :)
        rw [ef, es] at this
        exact this
      obtain ⟨r1, r2, r3, _⟩ := rdUint_in h.bytes (n := k + 1) (by omega) hi
      have c1 := rdUint_cnt bs (k + 1) s
      rw [e1] at r1 r2 r3 c1
      obtain ⟨a1, _, _, a4, _⟩ := shareV_in h.bytes d f s1 r1 r3
      have c2 := shareV_cnt bs d f s1
      rw [e2, hm] at c2
      rw [e2] at a1 a4
      have c3 : s2.cnt + 60 ≤ s1.cnt + 60 * m := c2
      have c4 : s1.cnt ≤ s.cnt + 60 := c1
      have a1 : V1.length = m := by rw [← hm]; exact a1
      have r1 : 0 ≤ f := r1
      have r2 : f < k + 1 := r2
      have HA : Hid (∀ W, Rd p gb bs s1 W → NewRow 2 B W (some ⟨g, 0, none⟩) (A ++ (List.replicate n 0 ++ C)) → Calls Try.prog 47 #[.pointer (some ⟨p, 0, none⟩), .slice (some ⟨g, o, none⟩) m cap, .int .i64 f] W fun e w' => e = .returned (.tuple #[]) ∧ Rd p gb bs s2 w' ∧ NewRow 2 B w' (some ⟨g, 0, none⟩) (A ++ (V1 ++ (List.replicate m 0 ++ C))) ∧ Went (PG p g) W (PG p g) w') := fun W h1 h2 => by
        have := ih s1 f A (List.replicate m 0 ++ C) m o cap W h1 r3 (by omega) hm.symm (by omega) ho (by omega) r1 (by omega) (by rw [← List.append_assoc (List.replicate m 0), List.replicate_append_replicate, ← hnm]; exact h2)
        rw [e2] at this
        exact this
      have HB : Hid (∀ W, Rd p gb bs s2 W → NewRow 2 B W (some ⟨g, 0, none⟩) (A ++ (V1 ++ (List.replicate m 0 ++ C))) → Calls Try.prog 47 #[.pointer (some ⟨p, 0, none⟩), .slice (some ⟨g, o + m, none⟩) m (cap - m), .int .i64 (k - f)] W fun e w' => e = .returned (.tuple #[]) ∧ Rd p gb bs s3 w' ∧ NewRow 2 B w' (some ⟨g, 0, none⟩) (A ++ ((V1 ++ V2) ++ C)) ∧ Went (PG p g) W (PG p g) w') := fun W h1 h2 => by
        have := ih s2 (k - f) (A ++ V1) C m (o + m) (cap - m) W h1 a4 (by omega) hm.symm (by omega) (by rw [List.length_append, a1, ho]) (by omega) (by omega) (by omega) (by rw [List.append_assoc]; exact h2)
        rw [e3, List.append_assoc, ← List.append_assoc V1] at this
        exact this
      have HR : Hid (Rd p gb bs s w ∧ NewRow 2 B w (some ⟨g, 0, none⟩) (A ++ (List.replicate n 0 ++ C))) := ⟨h, hr⟩
      rw [eV]
      have hnI : ((n : Int) == 1) = false := beq_eq_false_iff_ne.2 (by omega)
      have hq : wrap64 ((n : Int) / 2) = m := by rw [show (n : Int) / 2 = m by omega]; exact wrap_n (by omega) (by omega)
      have hkf : f ≤ k := Int.le_of_lt_add_one r2
      clear h hi hc hn ho hr hn16 ih e1 e2 e3 eV a1 a4 c1 c2 c3 c4 r2 r3 h0 hm hmp hnm
      have l1 : Hid True := trivial
      go_enter Try.func47, Try.ntmps47
      go_wp2_with (first
        | (go_at_call 66; go_loud (refine (HU.out _ HR.out.1).mono ?_; rintro e w1 ⟨rfl, hd1, hb1⟩; have hr1 := HR.out.2.same (w' := w1) (fun b hb => hb1.block b (fun e => hgp (by cases hb; exact e)))))
        | (go_at_call 47; clear l1; refine (HA.out _ hd1 hr1).mono ?_; rintro e w2 ⟨rfl, hd2, hr2, hw2⟩)
        | (go_at_call 47; rw [if_neg HS5.out]; refine (HB.out _ hd2 hr2).mono ?_; rintro e w3 ⟨rfl, hd3, hr3, hw3⟩))
      go_end0
      exact ⟨rfl, hd3, hr3, ((went_but hb1).trans hw2).trans hw3⟩

end Go.Proofs.Ytdbgcbbfnjoebaa

/- Package pulse, what reads: a block, all of it. -/
namespace Go.Proofs.Ytdbgcbbfnjoebaa
open Go.RowKit

theorem seg_at (A X C : List Int) {j : Nat} (h : j < X.length) : (A ++ (X ++ C))[A.length + j]?.getD 0 = X[j]?.getD 0 := by
  rw [List.getElem?_append_right (by omega), List.getElem?_append_left (by omega), Nat.add_sub_cancel_left]
theorem seg_set (A X C : List Int) {j : Nat} (h : j < X.length) (y : Int) : (A ++ (X ++ C)).set (A.length + j) y = A ++ (X.set j y ++ C) := by
  rw [List.set_append_right _ _ (by omega), Nat.add_sub_cancel_left, List.set_append_left _ _ h]
theorem seg_len (A X C : List Int) {j : Nat} (h : j < X.length) : A.length + j < (A ++ (X ++ C)).length := by
  rw [List.length_append, List.length_append]; omega

theorem cons_pair {x y : Int} {P : List Int × St} {m : List Int} {t : St} (h : (x :: P.1, P.2) = (y :: m, t)) : x = y ∧ P = (m, t) := by
  obtain ⟨l, u⟩ := P
  simp only [Prod.mk.injEq, List.cons.injEq] at h
  obtain ⟨⟨rfl, rfl⟩, rfl⟩ := h
  exact ⟨rfl, rfl⟩

theorem drop_at {l : List Int} {j : Nat} (h : j < l.length) : l.drop j = l[j]?.getD 0 :: l.drop (j + 1) := by
  rw [List.getElem?_eq_getElem h]
  exact (List.getElem_cons_drop h).symm

theorem Rd.off {p gb g : Nat} {bs : List Nat} {s : St} {w : World} (h : Rd p gb bs s w) (hgp : g ≠ p) (hgb : bs ≠ [] → g ≠ gb) (i : Nat) (v : Value) : Rd p gb bs s (w.setCell ⟨g, i, none⟩ v) :=
  h.of_blocks (((But.refl g w).set i v).block p fun e => hgp e.symm) (fun h0 => ((But.refl g w).set i v).block gb fun e => hgb h0 e.symm)

theorem icdf5_any (w : World) : Calls Try.prog 49 #[.int .i64 5] w fun e w' => ∃ a cap, e = .returned (.slice a 17 cap) ∧ RowAt w' a 17 (icdfL 5) ∧ (∀ b off, a = some ⟨b, off, none⟩ → w.heap.size ≤ b) ∧ Below w.heap.size w w' := by
  refine (icdf_any 5 w).mono ?_
  rintro e w' ⟨a, cap, rfl, hn, hb⟩
  refine ⟨a, cap, by rw [good5.2], ?_, ?_, hb⟩
  · have := RowAt.of_new hn
    rw [good5.2] at this
    exact this
  · rintro b off rfl
    obtain ⟨b', e, h1, _⟩ := hn.some_of (by rw [good5.2]; decide)
    cases e
    exact h1

set_option maxRecDepth 100000 in
set_option maxHeartbeats 1600000 in
theorem readBlock_any (p gb g B : Nat) (bs : List Nat) (hgp : g ≠ p) (hgb : bs ≠ [] → g ≠ gb) (s : St) (A C : List Int) (o cap : Nat) (w : World) (h : Rd p gb bs s w) (hi : Inv s) (hc : s.cnt ≤ 90000000000000) (ho : o = A.length) (hcap : 16 ≤ cap)
    (hr : NewRow 2 B w (some ⟨g, 0, none⟩) (A ++ (List.replicate 16 0 ++ C))) :
    Calls Try.prog 26 #[.pointer (some ⟨p, 0, none⟩), .slice (some ⟨g, o, none⟩) 16 cap] w fun e w' => e = .returned (.tuple #[]) ∧ Rd p gb bs (blockV bs s).2 w' ∧ NewRow 2 B w' (some ⟨g, 0, none⟩) (A ++ ((blockV bs s).1 ++ C)) ∧ Went (PG p g) w (PG p g) w' := by
  obtain ⟨k, s1, e1⟩ : ∃ k s1, rdSym bs (icdfL 5) s = (k, s1) := pair_is _
  obtain ⟨V, s2, e2⟩ : ∃ V s2, shareV bs 4 k s1 = (V, s2) := pair_is _
  obtain ⟨L, s3, e3⟩ : ∃ L s3, signV bs V s2 = (L, s3) := pair_is _
  have eB : blockV bs s = (L, s3) := by
    unfold blockV
    rw [e1]
    show signV bs (shareV bs 4 k s1).1 (shareV bs 4 k s1).2 = _
    rw [e2]
    exact e3
  obtain ⟨r1, r2, r3, _⟩ := rdSym_in h.bytes good5.1 hi
  have c1 := rdSym_cnt bs (icdfL 5) s
  rw [e1] at r1 r2 r3 c1
  rw [good5.2] at r2
  have c1 : s1.cnt ≤ s.cnt + 60 := c1
  have r1 : 0 ≤ k := r1
  have r2 : k < 17 := r2
  obtain ⟨a1, a2, a3, a4, _⟩ := shareV_in h.bytes 4 k s1 r1 r3
  have c2 := shareV_cnt bs 4 k s1
  rw [e2] at a1 a2 a3 a4 c2
  have c2 : s2.cnt + 60 ≤ s1.cnt + 60 * 16 := c2
  have a1 : V.length = 16 := a1
  have a2 : ∀ x ∈ V, 0 ≤ x := a2
  have a3 : sumP V = k := a3
  obtain ⟨b1, _, _, _⟩ := signV_in (b := bs) V s2 a2 a4
  rw [e3, a1] at b1
  have b1 : L.length = 16 := b1
  have HSY : Hid (∀ a cap W, Rd p gb bs s W → RowAt W a 17 (icdfL 5) → Calls Try.prog 48 #[.pointer (some ⟨p, 0, none⟩), .slice a 17 cap] W fun e w' => e = .returned (.int .i64 k) ∧ Rd p gb bs s1 w' ∧ But p W w') := fun a cap W hW hT => by
    have := symbol_any p gb bs s a 17 cap (icdfL 5) W hW hi (by omega) hT (by omega)
    have ef : (((symS bs (icdfL 5) s).1 : Nat) : Int) = k := (first_is e1 :)
    have es : (symS bs (icdfL 5) s).2 = s1 := (second_is e1 :)
    rw [ef, es] at this
    exact this
  have HSH : Hid (∀ W, Rd p gb bs s1 W → NewRow 2 B W (some ⟨g, 0, none⟩) (A ++ (List.replicate 16 0 ++ C)) → Calls Try.prog 47 #[.pointer (some ⟨p, 0, none⟩), .slice (some ⟨g, o, none⟩) 16 cap, .int .i64 k] W fun e w' => e = .returned (.tuple #[]) ∧ Rd p gb bs s2 w' ∧ NewRow 2 B w' (some ⟨g, 0, none⟩) (A ++ (V ++ C)) ∧ Went (PG p g) W (PG p g) w') := fun W h1 h2 => by
    have := readShares_any p gb g B bs hgp hgb 4 s1 k A C 16 o cap W h1 r3 (by omega) rfl (by omega) ho hcap r1 (by omega) h2
    rw [e2] at this
    exact this
  have HR : Hid (Rd p gb bs s w ∧ NewRow 2 B w (some ⟨g, 0, none⟩) (A ++ (List.replicate 16 0 ++ C))) := ⟨h, hr⟩
  have HL : Hid (V.length = 16 ∧ L.length = 16 ∧ signV bs V s2 = (L, s3) ∧ Inv s2 ∧ s2.cnt ≤ 91000000000000 ∧ (∀ j, j < 16 → 0 ≤ V[j]?.getD 0 ∧ V[j]?.getD 0 ≤ 16) ∧ o = A.length) := by
    refine ⟨a1, b1, e3, a4, by omega, fun j hj => ?_, ho⟩
    have h1 := a2 _ (at_mem (l := V) (i := j) (by omega))
    have h2 : absI (V[j]?.getD 0) ≤ pulsesN V := pulsesN_mem (at_mem (l := V) (i := j) (by omega))
    have h3 : pulsesN V = k := by
      rw [← a3]
      unfold pulsesN
      congr 1
      exact (List.map_congr_left fun x hx => by have := a2 x hx; unfold absI; rw [if_neg (by omega)]; rfl).trans (List.map_id V)
    unfold absI at h2
    rw [if_neg (by omega)] at h2
    omega
  have HF : Hid (g ≠ p ∧ (bs ≠ [] → g ≠ gb) ∧ g < w.heap.size) := ⟨hgp, hgb, (hr.ge (by simp only [List.length_append, List.length_replicate]; omega)).2⟩
  rw [eB]
  have hpw := h.lt
  clear h hi hc ho hr e1 e2 e3 eB a1 a2 a3 a4 b1 c1 c2 r1 r2 r3
  go_enter Try.func26, Try.ntmps26
  go_wp2_with (first
    | (go_at_call 49; go_loud (refine (icdf5_any _).mono ?_; rintro e w1 ⟨a, cap1, rfl, ht, hta, hb1⟩; have hd1 := HR.out.1.keep hb1; have hr1 := HR.out.2.keep hb1))
    | (go_at_call 48; go_loud (refine (HSY.out a cap1 _ hd1 ht).mono ?_; rintro e w2 ⟨rfl, hd2, hb2⟩; have hr2 := hr1.same (w' := w2) (fun b hb => hb2.block b (fun e => HF.out.1 (by cases hb; exact e)))))
    | (go_at_call 47; go_loud (refine (HSH.out _ hd2 hr2).mono ?_; rintro e w3 ⟨rfl, hd3, hr3, hw3⟩)))
  have hW3 : Went (PG p g) w (PG p g) w3 := (((Went.refl (PG p g) w).keep hb1).trans (went_but hb2)).trans hw3
  clear hd1 hr1 hd2 hr2 hb2 hw3 ht hta hb1
  go_loopw [13] (fun x W => ∃ (j : Nat) (t : St), j ≤ 16 ∧ x = .int .i64 j ∧ Rd p gb bs t W ∧ NewRow 2 B W (some ⟨g, 0, none⟩) (A ++ (mixL L V j ++ C)) ∧ Went (PG p g) w (PG p g) W ∧ Hid (Inv t ∧ t.cnt ≤ 91000000000000 + 60 * j ∧ signV bs (V.drop j) t = (L.drop j, s3))) (fun x _ => 16 - (intOf x).toNat)
  case atStart => exact ⟨0, s2, by omega, rfl, hd3, hr3, hW3, HL.out.2.2.2.1, by have := HL.out.2.2.2.2.1; omega, HL.out.2.2.1⟩
  case round =>
    clear hd3 hr3 hW3
    obtain ⟨j, t, hj, rfl, hd, hr, hW, HT⟩ := hrel
    by_cases hlt : j < 16
    · obtain ⟨q1, q2, _, _, _, q6, q7⟩ := HL.out
      have hml : (mixL L V j).length = 16 := mixL_len q2 q1 (by omega)
      have hcell := hr.cellAt (seg_len A (mixL L V j) C (j := j) (by omega))
      rw [seg_at A _ C (by omega), mixL_at q2 q1 hlt] at hcell
      have hfz := hr.frozenAt (by have := seg_len A (mixL L V j) C (j := j) (by omega); omega) (A.length + j)
      rw [← q7] at hcell hfz
      obtain ⟨v, hv⟩ : ∃ v, V[j]?.getD 0 = v := ⟨_, rfl⟩
      obtain ⟨y, hy⟩ : ∃ y, L[j]?.getD 0 = y := ⟨_, rfl⟩
      have hvb := q6 j hlt
      rw [hv] at hcell hvb
      have hs := HT.out.2.2
      rw [drop_at (l := V) (by omega), drop_at (l := L) (by omega), hv, hy] at hs
      have HST : Hid (∀ W, NewRow 2 B W (some ⟨g, 0, none⟩) (A ++ (mixL L V j ++ C)) → NewRow 2 B (W.setCell ⟨g, o + j, none⟩ (.int .i64 y)) (some ⟨g, 0, none⟩) (A ++ (mixL L V (j + 1) ++ C))) := fun W hW => by
        have := hW.set (A.length + j) y
        rw [seg_set A _ C (by omega), ← hy, ← mixL_step q2 q1 hlt] at this
        rw [q7, ← hy]
        exact this
      have HSM : Hid (y = v → mixL L V (j + 1) = mixL L V j) := fun e => by
        rw [mixL_step q2 q1 hlt, hy, e, ← hv, ← mixL_at q2 q1 hlt, set_own (by omega)]
      have HRW : Hid (NewRow 2 B wr (some ⟨g, 0, none⟩) (A ++ (mixL L V j ++ C))) := hr
      have HVB : Hid (0 ≤ v ∧ v ≤ 16) := hvb
      clear hv hy hml q1 q2 q6 q7 hvb hr
      by_cases hpos : 0 < v
      · obtain ⟨z, t1, et⟩ : ∃ z t1, rdBits bs 1 t = (z, t1) := pair_is _
        obtain ⟨R, t2, er⟩ : ∃ R t2, signV bs (V.drop (j + 1)) t1 = (R, t2) := pair_is _
        rw [signV, if_pos hpos, et] at hs
        have hs : ((if z = 1 then -v else v) :: (signV bs (V.drop (j + 1)) t1).1, (signV bs (V.drop (j + 1)) t1).2) = (y :: L.drop (j + 1), s3) := hs
        obtain ⟨hy1, hy2⟩ := cons_pair hs
        obtain ⟨_, i2, _⟩ := rdBits_in bs (n := 1) HT.out.1
        have i3 := rdBits_cnt bs 1 t
        rw [et] at i2 i3
        have HN : Hid (Inv t1 ∧ t1.cnt ≤ 91000000000000 + 60 * (j + 1 : Nat) ∧ signV bs (V.drop (j + 1)) t1 = (L.drop (j + 1), s3)) := ⟨i2, by have := HT.out.2.1; have i3 : t1.cnt ≤ t.cnt + 60 := i3; omega, hy2⟩
        have HBI : Hid (∀ W, Rd p gb bs t W → Calls Try.prog 50 #[.pointer (some ⟨p, 0, none⟩), .int .i64 1] W fun e w' => e = .returned (.int .i64 z) ∧ Rd p gb bs t1 w' ∧ But p W w') := fun W hW => by
          have := bits_any p gb bs t 1 W hW HT.out.1 (by have := HT.out.2.1; omega)
          have ef : (((bitsS bs 1 t).1 : Nat) : Int) = z := (first_is et :)
          have es : (bitsS bs 1 t).2 = t1 := (second_is et :)
          rw [ef, es] at this
          exact this
        clear hs hy2 i2 i3 et er
        by_cases hz : z = 1
        · have hzb : (z == 1) = true := beq_iff_eq.2 hz
          rw [if_pos hz] at hy1
          subst hy1
          have hwv : wrap64 (-v) = -v := wrap_n (by have := HVB.out; omega) (by have := HVB.out; omega)
          clear hz HSM
          go_wp2_with (go_at_call 50; go_loud (refine (HBI.out _ hd).mono ?_; rintro e w4 ⟨rfl, hd4, hb4⟩; have hcell4 := (hb4.cell (a := ⟨g, o + j, none⟩) HF.out.1).trans hcell; have hfz4 := (hb4.frozen (a := ⟨g, o + j, none⟩) HF.out.1).trans hfz; have hr4 := HRW.out.same (w' := w4) (fun b hb => hb4.block b (fun e => HF.out.1 (by cases hb; exact e)))))
          go_roundw
          case rel => exact ⟨j + 1, t1, by omega, by go_num, hd4.off HF.out.1 HF.out.2.1 _ _, HST.out _ hr4, (hW.trans (went_but hb4)).trans (went_set _ _ _), HN.out⟩
          case measure => simp [intOf]; omega
        · have hzb : (z == 1) = false := beq_eq_false_iff_ne.2 hz
          rw [if_neg hz] at hy1
          have HSM2 : Hid (mixL L V (j + 1) = mixL L V j) := HSM.out hy1.symm
          clear hz HSM hy1 HST
          go_wp2_with (go_at_call 50; go_loud (refine (HBI.out _ hd).mono ?_; rintro e w4 ⟨rfl, hd4, hb4⟩; have hr4 := HRW.out.same (w' := w4) (fun b hb => hb4.block b (fun e => HF.out.1 (by cases hb; exact e)))))
          go_roundw
          case rel => exact ⟨j + 1, t1, by omega, by go_num, hd4, by rw [HSM2.out]; exact hr4, hW.trans (went_but hb4), HN.out⟩
          case measure => simp [intOf]; omega
      · obtain rfl : v = 0 := by have := HVB.out; omega
        rw [signV, if_neg (by decide)] at hs
        obtain ⟨hy1, hy2⟩ := cons_pair hs
        have HSM2 : Hid (mixL L V (j + 1) = mixL L V j) := HSM.out hy1.symm
        have HN : Hid (Inv t ∧ t.cnt ≤ 91000000000000 + 60 * (j + 1 : Nat) ∧ signV bs (V.drop (j + 1)) t = (L.drop (j + 1), s3)) := ⟨HT.out.1, by have := HT.out.2.1; omega, hy2⟩
        clear hs hy1 hy2 HSM HST hpos
        go_wp2
        go_roundw
        case rel => exact ⟨j + 1, t, by omega, by go_num, hd, by rw [HSM2.out]; exact HRW.out, hW, HN.out⟩
        case measure => simp [intOf]; omega
    · obtain rfl : j = 16 := by omega
      go_wp2
      go_end0
      obtain ⟨q1, q2, _⟩ := HL.out
      have hs := HT.out.2.2
      rw [List.drop_eq_nil_of_le (by omega), List.drop_eq_nil_of_le (by omega)] at hs
      have hs2 : t = s3 := (second_is hs :)
      rw [mixL_all q2 q1] at hr
      subst hs2
      exact ⟨rfl, hd, hr, hW⟩

end Go.Proofs.Ytdbgcbbfnjoebaa

/- Package pulse: Read. -/
namespace Go.Proofs.Ytdbgcbbfnjoebaa
open Go.RowKit

theorem blocksV_snoc (b : List Nat) : ∀ (m : Nat) (s : St), blocksV b (m + 1) s = ((blocksV b m s).1 ++ (blockV b (blocksV b m s).2).1, (blockV b (blocksV b m s).2).2)
  | 0, s => by
    show ((blockV b s).1 ++ ([] : List Int), (blockV b s).2) = ([] ++ (blockV b s).1, (blockV b s).2)
    rw [List.append_nil, List.nil_append]
  | m + 1, s => by
    show ((blockV b s).1 ++ (blocksV b (m + 1) (blockV b s).2).1, (blocksV b (m + 1) (blockV b s).2).2) = (((blockV b s).1 ++ (blocksV b m (blockV b s).2).1) ++ _, _)
    rw [blocksV_snoc b m (blockV b s).2, List.append_assoc]
    rfl

/-- A row that the call itself has made is turned. -/
theorem Went.fresh {p g : Nat} {a b c : World} (h : Went (fun k => k = p) a (fun k => k = p) b) (k : Went (PG p g) b (PG p g) c) (hg : a.heap.size ≤ g) : Went (fun k => k = p) a (fun k => k = p) c :=
  ⟨k.os.trans h.os, k.tape.trans h.tape, k.output.trans h.output, Nat.le_trans h.size k.size,
    fun i hi hn => (k.block i (Nat.lt_of_lt_of_le hi h.size) (fun hs => by rcases hs with h1 | h1; exact hn h1; omega)).trans (h.block i hi hn), fun _ h => .inl h⟩

theorem read_bad (p : Nat) (n : Int) (w : World) (h : lenB n = false) :
    Calls Try.prog 10 #[.pointer (some ⟨p, 0, none⟩), .int .i64 n] w fun e w' => e = .returned (.tuple #[.slice none 0 0, .int .i64 1]) ∧ w' = w := by
  have HB : Hid (lenB n = false) := h
  clear h
  go_enter Try.func10, Try.ntmps10
  go_wp2_with (go_at_call 25; refine (goodLength_any n _).mono ?_; rw [HB.out]; rintro e w' ⟨rfl, rfl⟩)
  go_ret2
  exact ⟨rfl, rfl⟩

set_option maxRecDepth 100000 in
set_option maxHeartbeats 800000 in
theorem read_any (p gb : Nat) (bs : List Nat) (s : St) (m n : Nat) (w : World) (h : Rd p gb bs s w) (hi : Inv s) (hc : s.cnt ≤ 80000000000000) (hn : n = 16 * m) (hm1 : 1 ≤ m) (hm : m ≤ 30) :
    Calls Try.prog 10 #[.pointer (some ⟨p, 0, none⟩), .int .i64 n] w fun e w' => ∃ g, e = .returned (.tuple #[.slice (some ⟨g, 0, none⟩) n n, .int .i64 0]) ∧ NewRow 2 w.heap.size w' (some ⟨g, 0, none⟩) (blocksV bs m s).1 ∧ Rd p gb bs (blocksV bs m s).2 w' ∧ Went (fun k => k = p) w (fun k => k = p) w' := by
  have HB : Hid (lenB (n : Int) = true) := decide_eq_true ⟨by omega, by omega, by omega⟩
  have HH : Hid (Rd p gb bs s w ∧ Inv s ∧ s.cnt ≤ 80000000000000 ∧ n = 16 * m ∧ 1 ≤ m ∧ m ≤ 30) := ⟨h, hi, hc, hn, hm1, hm⟩
  have hpw := h.lt
  have HGB : Hid (bs ≠ [] → gb < w.heap.size) := fun h0 => h.gt h0
  have hnI : (n : Int) ≤ 480 := by omega
  have hnI0 : (16 : Int) ≤ (n : Int) := by omega
  have HMK : Hid (NewRow 2 w.heap.size (w.alloc (.cells (madeCells #[.int .i64 0] n) 2)) (some ⟨w.heap.size, 0, none⟩) (List.replicate n 0)) := NewRow.made w n
  have hmk := fun W : World => run_make_row' (P := Try.prog) 23 2 (.int .i64 0) 8 Try.underlying23 info_int64 rfl .i64 .i64 n (by omega) (by omega) W
  clear h hi hc hn hm1 hm
  go_enter Try.func10, Try.ntmps10
  go_wp2_with (go_at_call 25; refine (goodLength_any n _).mono ?_; rw [HB.out]; rintro e w' ⟨rfl, rfl⟩)
  go_loopw [7] (fun x W => ∃ (j o : Nat), j ≤ m ∧ x = .int .i64 o ∧ Hid (o = 16 * j) ∧ Rd p gb bs (blocksV bs j s).2 W ∧ NewRow 2 w'.heap.size W (some ⟨w'.heap.size, 0, none⟩) ((blocksV bs j s).1 ++ List.replicate (16 * (m - j)) 0) ∧ Went (fun k => k = p) w' (fun k => k = p) W) (fun x _ => n - (intOf x).toNat)
  case atStart =>
    refine ⟨0, 0, Nat.zero_le _, rfl, rfl, HH.out.1.keep ((Below.refl _ _).alloc (Nat.le_refl _) _), ?_, (Went.refl _ _).alloc _⟩
    have := HMK.out
    rw [HH.out.2.2.2.1] at this
    rw [HH.out.2.2.2.1]
    exact this
  case round =>
    obtain ⟨j, o, hj, rfl, HO, hd, hr, hW⟩ := hrel
    by_cases hlt : j < m
    · obtain ⟨_, q2, q3, q4, q5, q6⟩ := HH.out
      obtain ⟨g1, g2, _⟩ := blocksV_in HH.out.1.bytes j s q2
      have g3 := blocksV_cnt HH.out.1.bytes j s q2
      have g4 := goodN_len j _ g1
      have hO := HO.out
      have hs1 : o + 16 ≤ n := by omega
      have hs2 : (o : Int) + 16 ≤ n := by omega
      have hs3 : (o : Int) < n := by omega
      have hs4 : o ≤ n := by omega
      have HRB : Hid (∀ W, Rd p gb bs (blocksV bs j s).2 W → NewRow 2 w'.heap.size W (some ⟨w'.heap.size, 0, none⟩) ((blocksV bs j s).1 ++ List.replicate (16 * (m - j)) 0) → Calls Try.prog 26 #[.pointer (some ⟨p, 0, none⟩), .slice (some ⟨w'.heap.size, o, none⟩) 16 (n - o)] W fun e w2 => e = .returned (.tuple #[]) ∧ Rd p gb bs (blocksV bs (j + 1) s).2 w2 ∧ NewRow 2 w'.heap.size w2 (some ⟨w'.heap.size, 0, none⟩) ((blocksV bs (j + 1) s).1 ++ List.replicate (16 * (m - (j + 1))) 0) ∧ Went (PG p w'.heap.size) W (PG p w'.heap.size) w2) := fun W h1 h2 => by
        have := readBlock_any p gb w'.heap.size w'.heap.size bs (by omega) (fun h0 => by have := HGB.out h0; omega) (blocksV bs j s).2 (blocksV bs j s).1 (List.replicate (16 * (m - (j + 1))) 0) o (n - o) W h1 g2 (by omega) (by rw [g4]; exact hO) (by omega)
          (by rw [List.replicate_append_replicate, show 16 + 16 * (m - (j + 1)) = 16 * (m - j) by omega]; exact h2)
        rw [blocksV_snoc, List.append_assoc]
        exact this
      clear g1 g2 g3 g4 q2 q3 q4 q5 q6 hO
      go_wp2_with (go_at_call 26; go_loud (refine (HRB.out _ hd hr).mono ?_; rintro e w2 ⟨rfl, hd2, hr2, hw2⟩))
      go_roundw
      case rel => exact ⟨j + 1, o + 16, by omega, by go_num, by have := HO.out; show _ = _; omega, hd2, hr2, hW.fresh hw2 (Nat.le_refl _)⟩
      case measure => simp [intOf]; omega
    · obtain rfl : j = m := by omega
      have hs1 : ¬ ((o : Int) < n) := by have := HO.out; have := HH.out.2.2.2.1; omega
      go_wp2
      go_ret2
      rw [Nat.sub_self, Nat.mul_zero, List.replicate_zero, List.append_nil] at hr
      exact ⟨_, rfl, hr, hd, hW⟩

end Go.Proofs.Ytdbgcbbfnjoebaa

