/- How a window rises: its height as a function of the angle, run through by the kernel over the quarter turn. -/
import Derived.Test.YtjcbcmloenhohabDoorFixQ
namespace Go.Proofs.YtjcbcmloenhohabDoor

def upN (s : Int) : Int := sN (((s * s + 16384) / 32768 + 1) / 2).toNat
def hN (x : Nat) : Int := upN (sN x)
/-- At an angle and at its mirrors: heights rise, lie between nought and one, and the squares are one, nearly. -/
def winB (a b c d : Int) : Bool :=
  Nat.ble (a * a + c * c - 1073741824).natAbs 524288 && (Nat.ble (b * b + c * c - 1073741824).natAbs 524288 && (Nat.ble (b - a - 32768).natAbs 32768 && (Nat.ble (c - d - 32768).natAbs 32768 && (Nat.ble (a - 16384).natAbs 16384 && Nat.ble (c - 16384).natAbs 16384))))
def winP (x : Nat) : Bool := (fun (a b c d : Int) => winB a b c d) (hN x) (hN (x + 1)) (hN (16384 - x)) (hN (16383 - x))

theorem win_a : span winP 11 0 = true := by decide +kernel
theorem win_b : span winP 11 2048 = true := by decide +kernel
theorem win_c : span winP 11 4096 = true := by decide +kernel
theorem win_d : span winP 11 6144 = true := by decide +kernel
theorem win_m : (Nat.ble (hN 8192 * hN 8192 + hN 8192 * hN 8192 - 1073741824).natAbs 524288 && Nat.ble (hN 8192 - 16384).natAbs 16384) = true := by decide +kernel
theorem sin_top : span (fun x => Nat.ble (sN x).natAbs 32768) 14 0 = true := by decide +kernel
theorem sin_end : Nat.ble (sN 16384).natAbs 32768 = true := by decide +kernel

end Go.Proofs.YtjcbcmloenhohabDoor
