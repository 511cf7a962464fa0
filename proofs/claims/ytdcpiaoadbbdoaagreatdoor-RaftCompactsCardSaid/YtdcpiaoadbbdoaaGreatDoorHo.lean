/- The program's changes: vote and leave. -/
import Derived.Test.YtdcpiaoadbbdoaaGreatDoorRb
import Derived.Test.YtdcpiaoadbbdoaaGreatDoorHn
set_option maxRecDepth 100000
set_option maxHeartbeats 16000000
namespace Go.Proofs.YtdcpiaoadbbdoaaGreatDoor
open Go.RowKit

end Go.Proofs.YtdcpiaoadbbdoaaGreatDoor
