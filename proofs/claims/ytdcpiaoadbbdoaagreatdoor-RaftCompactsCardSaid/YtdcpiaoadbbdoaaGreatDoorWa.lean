/- Seats and requests; which end of a log is newer; whether a vote is open. -/
import Derived.Test.YtdcpiaoadbbdoaaGreatDoorRb
import Derived.Test.YtdcpiaoadbbdoaaGreatDoorJd
import Derived.Test.YtdcpiaoadbbdoaaGreatDoorAp
import Derived.Deep.RegionHeld3
set_option maxRecDepth 100000
set_option maxHeartbeats 16000000
namespace Go.Proofs.YtdcpiaoadbbdoaaGreatDoor
open Go.RowKit

@[reducible] def v5 (a b c d : Nat) (o : Bool) : Value := .agg #[.int .u64 a, .int .u64 b, .int .u64 c, .int .u64 d, .bool o]
structure B5 (w : World) (x : Nat) (a b c d : Nat) (o : Bool) : Prop where
 c0 : w.cell? ⟨x, 0, none⟩ = some (.int .u64 a)
 c1 : w.cell? ⟨x, 1, none⟩ = some (.int .u64 b)
 c2 : w.cell? ⟨x, 2, none⟩ = some (.int .u64 c)
 c3 : w.cell? ⟨x, 3, none⟩ = some (.int .u64 d)
 c4 : w.cell? ⟨x, 4, none⟩ = some (.bool o)
 fz : ∀ j, w.frozen? ⟨x, j, none⟩ = false
 lt : x < w.heap.size
end Go.Proofs.YtdcpiaoadbbdoaaGreatDoor
