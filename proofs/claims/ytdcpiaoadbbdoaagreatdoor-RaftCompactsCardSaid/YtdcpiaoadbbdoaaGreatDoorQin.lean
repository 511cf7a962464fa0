/- A leader's snapshot is installed. -/
import Derived.Test.YtdcpiaoadbbdoaaGreatDoorRb
import Derived.Test.YtdcpiaoadbbdoaaGreatDoorQjn
set_option maxRecDepth 100000
set_option maxHeartbeats 16000000
namespace Go.Proofs.YtdcpiaoadbbdoaaGreatDoor
open Go.RowKit

theorem NdM.fr {K : Nat} {w w' : World} {p : Pn} {d : Ad} (h : NdM K w p d) (hb : Below w.heap.size w w') {a : Option Addr} {c : Nat} {g : Lg} (hc : g.L.length ≤ c) (hm : c ≤ maxLen) (hp : Fr w d.e.a p.g.L w' a g.L) : NdM K w' { p with g := g } { d with e := ⟨a, c⟩ } := by
 exact h.log hb (hp.out h.e hb) hc hm hp.pl
end Go.Proofs.YtdcpiaoadbbdoaaGreatDoor
