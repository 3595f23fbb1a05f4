/- Package synth's Pcm and the document's. -/
import Derived.Test.YtbnkapeahbegaaaSynA
import Derived.Test.YtbnkapeahbegaaaNumB
import Derived.Test.YtbnkapeahbegaaaTabsE
import Derived.OwnWalk
import Derived.Deep.AppendLies
namespace Go.Proofs.Ytbnkapeahbegaaa
open Go.RowKit

def pcmI (x : Int) : Int := clampI (mulI x 1 4) (-32768) 32767
def pcmL (zs : List Int) : List Int := zs.map pcmI
theorem pcmL_len (zs : List Int) : (pcmL zs).length = zs.length := by unfold pcmL; rw [List.length_map]
theorem pcmL_at {zs : List Int} {j : Nat} (h : j < zs.length) : (pcmL zs)[j]?.getD 0 = pcmI (zs[j]?.getD 0) := by
  unfold pcmL
  rw [List.getElem?_map, List.getElem?_eq_getElem h]
  rfl
theorem pcmI_in (x : Int) : -32768 ≤ pcmI x ∧ pcmI x ≤ 32767 := clampI_in _ _ _ (by decide)

set_option maxRecDepth 100000 in
set_option maxHeartbeats 1000000 in
theorem pcm_any (a : Option Addr) (n cap : Nat) (zs : List Int) (w : World) (hz : Zs w a n zs) (hn : n ≤ 100000) :
    Calls Try.prog 13 #[.slice a n cap] w fun e w' => ∃ a', e = .returned (.slice a' n n) ∧ NewRow 2 w.heap.size w' a' (pcmL zs) ∧ Below w.heap.size w w' := by
  have hl := hz.len
  have HZ : Hid (∀ W, Below w.heap.size w W → Zs W a n zs) := fun W hb => hz.keep hb
  have HF : Hid (∀ j, j < n → (pcmL zs)[j]?.getD 0 = pcmI (zs[j]?.getD 0)) := fun j hj => pcmL_at (by omega)
  have HL : Hid ((pcmL zs).length = n) := by show _ = _; rw [pcmL_len, hl]
  clear hz hl
  generalize pcmL zs = f at *
  have hmk := fun W : World => run_make_row' (P := Try.prog) 25 2 (.int .i64 0) 8 Try.underlying25 info_int64 rfl .i64 .i64 n (by omega) (by omega) W
  go_enter Try.func13, Try.ntmps13
  go_wp2
  go_loopw [4, 5, 11] (fun _ _ k W => ∃ m : Nat, m ≤ n ∧ k = .int .i64 m ∧ W.rowIs w.heap.size 2 n (fun j => .int .i64 (if j < m then f[j]?.getD 0 else 0)) ∧ Below w.heap.size w W) (fun _ _ k _ => n - (intOf k).toNat)
  case atStart => exact ⟨0, Nat.zero_le _, rfl, World.rowIs_made w _ _ _, (Below.refl _ _).alloc (Nat.le_refl _) _⟩
  case round =>
    obtain ⟨m, hm, rfl, hrow, hbel⟩ := hrel
    by_cases hlt : m < n
    · have hfz := hrow.frozen m
      obtain ⟨x, hx⟩ : ∃ x, wr.cell? ⟨w.heap.size, m, none⟩ = some x := ⟨_, hrow.cell hlt⟩
      obtain ⟨b, off, rfl, hb, hc⟩ := (HZ.out wr hbel).at_ (by omega)
      have hcm := hc m hlt
      have hfm := HF.out m hlt
      generalize zs[m]?.getD 0 = z at hcm hfm
      have HFm : Hid (clampI (mulI z 1 4) (-32768) 32767 = f[m]?.getD 0) := hfm.symm
      have HR : Hid ((wr.setCell ⟨w.heap.size, m, none⟩ (.int .i64 (f[m]?.getD 0))).rowIs w.heap.size 2 n (fun j => .int .i64 (if j < m + 1 then f[j]?.getD 0 else 0))) := rowIs_step (f := fun j => f[j]?.getD 0) hrow (by omega)
      have HB : Hid (Below w.heap.size w (wr.setCell ⟨w.heap.size, m, none⟩ (.int .i64 (f[m]?.getD 0)))) := hbel.setCell (Nat.le_refl _) _
      clear hrow hbel HF hc HZ hfm
      generalize f[m]?.getD 0 = fm at HFm HR HB
      go_wp2_with (first
        | (go_at_call 25; refine (mul_any _ _ _ _).mono ?_; rintro e w' ⟨rfl, rfl⟩)
        | (go_at_call 24; refine (sat16_any _ _).mono ?_; rw [HFm.out]; rintro e w' ⟨rfl, rfl⟩))
      go_roundw
      case rel => exact ⟨m + 1, by omega, by go_num, HR.out, HB.out⟩
      case measure => simp [intOf]; omega
    · have hm' : m = n := by omega
      subst hm'
      have HR : Hid (NewRow 2 w.heap.size wr (some ⟨w.heap.size, 0, none⟩) f) := NewRow.of_rowIs hrow (Nat.le_refl _) HL.out (fun j hj => by rw [if_pos hj])
      clear hrow HF HZ
      go_wp2
      go_ret
      exact ⟨_, rfl, HR.out, hbel⟩

set_option maxRecDepth 100000 in
set_option maxHeartbeats 1000000 in
theorem rpcm_any (a : Option Addr) (n cap : Nat) (zs : List Int) (w : World) (hz : Zs w a n zs) (hn : n ≤ 1000) :
    Calls Try.prog 18 #[.slice a n cap] w fun e w' => ∃ a' c, e = .returned (.slice a' n c) ∧ NewRow 2 w.heap.size w' a' (pcmL zs) ∧ Below w.heap.size w w' := by
  have HZ : Hid (∀ W, Below w.heap.size w W → Zs W a n zs) := fun W hb => hz.keep hb
  have HL : Hid (zs.length = n) := hz.len
  clear hz
  go_enter Try.func18, Try.ntmps18
  go_wp2
  go_loopw [3, 4] (fun v i W => ∃ k : Nat, k ≤ n ∧ i = .int .i64 k ∧ Hid (W.ownsRow w.heap.size 2 1 v k ((pcmL (zs.take k)).map (Value.int .i64)) ∧ Below w.heap.size w W)) (fun _ i _ => n - (intOf i).toNat)
  case atStart => exact ⟨0, Nat.zero_le _, rfl, World.ownsRow_nil _ _ _ _, Below.refl _ _⟩
  case round =>
    obtain ⟨k, hk, rfl, HH⟩ := hrel
    by_cases hlt : k < n
    · obtain ⟨hown, hbel⟩ := HH.out
      obtain ⟨b, off, rfl, hb, hc⟩ := (HZ.out wr hbel).at_ (by omega)
      have hck := hc k hlt
      have hsz := hbel.size
      have hst : pcmL (zs.take (k + 1)) = pcmL (zs.take k) ++ [pcmI (zs[k]?.getD 0)] := by
        rw [take_snoc (by have := HL.out; omega)]
        unfold pcmL
        rw [List.map_append]
        rfl
      have HST : Hid (pcmL (zs.take (k + 1)) = pcmL (zs.take k) ++ [pcmI (zs[k]?.getD 0)]) := hst
      generalize zs[k]?.getD 0 = z at hck HST
      have HP : Hid (clampI (mulI z 1 4) (-32768) 32767 = pcmI z) := rfl
      generalize pcmI z = y at *
      clear hc HH hst HZ
      go_wp2_with (first
        | (go_at_call 27; refine (rmul_any _ _ _ _).mono ?_; rintro e w' ⟨rfl, rfl⟩)
        | (go_at_call 31; refine (rsat16_any _ _).mono ?_; rw [HP.out]; rintro e w' ⟨rfl, rfl⟩)
        | (at_builtin; refine wpList_append_one 25 2 Try.underlying25 info_int64 w.heap.size _ k _ _ hown (by omega) hsz rfl _ _ rfl rfl rfl ?_; intro v' w10 hown2 hb2; have hb3 := hbel.trans hb2))
      go_roundw
      case rel => exact ⟨k + 1, by omega, by go_num, by rw [HST.out]; exact hown2, hb3⟩
      case measure => simp [intOf]; omega
    · have hm' : k = n := by omega
      subst hm'
      obtain ⟨hown, hbel⟩ := HH.out
      obtain ⟨_, a', c, rfl, hnew⟩ := NewRow.of_owned hown
      rw [List.take_of_length_le (by have := HL.out; omega)] at hnew
      have HB : Hid (Below w.heap.size w wr) := hbel
      clear HH hown hbel HZ
      go_wp2
      go_ret
      exact ⟨a', c, rfl, hnew, HB.out⟩

end Go.Proofs.Ytbnkapeahbegaaa
