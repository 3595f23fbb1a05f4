/- The document's own reader behind a pointer: what its cells hold; its next byte; going on; to choose, to take. -/
import Derived.Test.YtinjkffkkmbioabRcG
namespace Go.Proofs.Ytinjkffkkmbioab
open Go.RowKit

def decG (a : Option Addr) (n cap : Nat) (s : St) (ee fr back wait waiting : Nat) : Nat → Value
  | 0 => .slice a n cap
  | 1 => .int .u64 s.rng
  | 2 => .int .u64 s.val
  | 3 => .int .i64 s.last
  | 4 => .int .i64 fr
  | 5 => .int .i64 back
  | 6 => .int .u64 wait
  | 7 => .int .i64 waiting
  | 8 => .int .i64 s.cnt
  | 9 => .bool s.bad
  | _ => .int .u64 ee

theorem lt11 {q : Nat → Prop} (h0 : q 0) (h1 : q 1) (h2 : q 2) (h3 : q 3) (h4 : q 4) (h5 : q 5) (h6 : q 6) (h7 : q 7) (h8 : q 8) (h9 : q 9) (h10 : q 10) : ∀ j, j < 11 → q j
  | 0, _ => h0 | 1, _ => h1 | 2, _ => h2 | 3, _ => h3 | 4, _ => h4 | 5, _ => h5 | 6, _ => h6 | 7, _ => h7 | 8, _ => h8 | 9, _ => h9 | 10, _ => h10
  | n + 11, h => absurd h (by omega)

end Go.Proofs.Ytinjkffkkmbioab
