/- container/heap over package pitch's lags: Push, Pop. -/
import Derived.Test.YtamiokleolfnoaaPitchC
namespace Go.Proofs.Ytamiokleolfnoaa
namespace Pit
open Go.RowKit

/-- A lag is laid into the heap. -/
def pushF (e : Nat → LagS) (n : Nat) (x : LagS) : Nat → LagS := upF keyL (n + 1) (putF e n x) n

set_option maxRecDepth 100000 in
theorem heapPush_any {B p n : Nat} {e : Nat → LagS} {w : World} (h : Hp B p n e w) (hl : Pl n e) (hn : n < 1000) (x1 x2 : Int) (hx : 0 ≤ x1 ∧ x1 < 1000) :
    Calls Try.prog 16 #[.iface 40 (.pointer (some ⟨p, 0, none⟩)), .iface 33 (.agg #[.int .i64 x1, .int .i64 x2])] w fun e' w' => e' = .returned (.tuple #[]) ∧ Hp B p (n + 1) (pushF e n (x1, x2)) w' ∧ Below B w w' := by
  have HH : Hid (Hp B p n e w ∧ n < 1000) := ⟨h, hn⟩
  have hp1 : ∀ W, (method 173 40 (.pointer (some ⟨p, 0, none⟩)) "Push").run Try.prog W = .ok (46, .pointer (some ⟨p, 0, none⟩)) W := fun W => m_push _ W
  have HP : Hid (Pl (n + 1) (putF e n (x1, x2))) := fun k hk => by
    unfold putF
    split
    · exact hx
    · exact hl k (by omega)
  have hw : wrap64 (n : Int) = n := wrap_n (by omega) (by omega)
  clear h hn hl hx
  go_enter Try.func16, Try.ntmps16
  go_wp2_with (first
    | (go_at_call 46; go_loud (refine (push_any HH.out.1 (by have := HH.out.2; omega) x1 x2).mono ?_; rintro e' w' ⟨rfl, hh1, hb1⟩; obtain ⟨v, hv⟩ := hh1; have hLen := hv.mLen; obtain ⟨a, cap, rfl⟩ := hv.slice))
    | (go_at_call 18; go_loud (refine (len_any a (n + 1) cap _).mono ?_; rintro e' w' ⟨rfl, rfl⟩))
    | (go_at_call 23; go_loud (refine (up_any ⟨_, hv⟩ HP.out n (by omega) (by have := HH.out.2; omega)).mono ?_; rintro e' w2 ⟨rfl, hh2, hb2⟩)))
  go_end0
  exact ⟨rfl, hh2, hb1.trans hb2⟩

set_option maxRecDepth 100000 in
set_option maxHeartbeats 400000 in
/-- The heap's first is taken. -/
theorem heapPop_g {B p n g cap : Nat} {e : Nat → LagS} {w : World} (h : HpV B p (n + 1) (.slice (some ⟨g, 0, none⟩) (n + 1) cap) e w) (hl : Pl (n + 1) e) (hn : n < 1000) :
    Calls Try.prog 19 #[.iface 40 (.pointer (some ⟨p, 0, none⟩))] w fun e' w' => e' = .returned (.iface 33 (.agg #[.int .i64 ((downF keyL n (swapF e 0 n) 0 n).1 n).1, .int .i64 ((downF keyL n (swapF e 0 n) 0 n).1 n).2])) ∧ HpV B p n (.slice (some ⟨g, 0, none⟩) n cap) (downF keyL n (swapF e 0 n) 0 n).1 w' ∧ Off2 p g w w' ∧ Below B w w' := by
  have HH : Hid (n < 1000 ∧ Pl (n + 1) e) := ⟨hn, hl⟩
  have hv := h
  have HV : Hid (HpV B p (n + 1) (.slice (some ⟨g, 0, none⟩) (n + 1) cap) e w) := hv
  have hp1 : ∀ W, (method 173 40 (.pointer (some ⟨p, 0, none⟩)) "Pop").run Try.prog W = .ok (45, .pointer (some ⟨p, 0, none⟩)) W := fun W => m_pop _ W
  have hLen := hv.mLen
  have hSwap := hv.mSwap
  have hw : wrap64 (n : Int) = n := wrap_n (by omega) (by omega)
  have HSP : Hid (Pl (n + 1) (swapF e 0 n)) := hl.swap (Nat.succ_pos n) (Nat.lt_succ_self n)
  clear hn hl hv h
  go_enter Try.func19, Try.ntmps19
  go_wp2_with (first
    | (go_at_call 18; go_loud (refine (len_any _ (n + 1) cap _).mono ?_; rintro e' w' ⟨rfl, rfl⟩))
    | (go_at_call 47; go_loud (refine (hswap_g HV.out (i := 0) (j := n) (Nat.succ_pos n) (Nat.lt_succ_self n)).mono ?_; rintro e' w1 ⟨rfl, hh1, ho1, hb1⟩))
    | (go_at_call 24; go_loud (refine (down_g hh1 HSP.out n (Nat.le_succ n) (by have := HH.out.1; omega)).mono ?_; rintro e' w2 ⟨⟨b, rfl⟩, hh2, ho2, hb2⟩))
    | (go_at_call 45; go_loud (refine (pop_g hh2 (by have := HH.out.1; omega)).mono ?_; rintro e' w3 ⟨rfl, hh3, ho3, hb3⟩)))
  go_ret
  exact ⟨rfl, hh3, (ho1.trans ho2).trans ⟨ho3.1, fun k hk h1 _ => ho3.2 k hk h1⟩, (hb1.trans hb2).trans hb3⟩

theorem heapPop_any {B p n : Nat} {e : Nat → LagS} {w : World} (h : Hp B p (n + 1) e w) (hl : Pl (n + 1) e) (hn : n < 1000) :
    Calls Try.prog 19 #[.iface 40 (.pointer (some ⟨p, 0, none⟩))] w fun e' w' => e' = .returned (.iface 33 (.agg #[.int .i64 ((downF keyL n (swapF e 0 n) 0 n).1 n).1, .int .i64 ((downF keyL n (swapF e 0 n) 0 n).1 n).2])) ∧ Hp B p n (downF keyL n (swapF e 0 n) 0 n).1 w' ∧ Below B w w' := by
  obtain ⟨v, h⟩ := h
  obtain ⟨g, cap, rfl, hne, hr⟩ := h.inRow (Nat.succ_pos n)
  refine (heapPop_g h hl hn).mono ?_
  rintro e' w' ⟨he, h1, _, h2⟩
  exact ⟨he, ⟨_, h1⟩, h2⟩

end Pit
end Go.Proofs.Ytamiokleolfnoaa
