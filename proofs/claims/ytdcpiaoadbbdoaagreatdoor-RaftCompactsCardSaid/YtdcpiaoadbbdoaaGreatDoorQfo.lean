/- What a node would answer, asked for its vote. -/
import Derived.Test.YtdcpiaoadbbdoaaGreatDoorRb
import Derived.Test.YtdcpiaoadbbdoaaGreatDoorQse
import Derived.Test.YtdcpiaoadbbdoaaGreatDoorQmy
import Derived.Test.YtdcpiaoadbbdoaaGreatDoorWb
set_option maxRecDepth 100000
set_option maxHeartbeats 16000000
namespace Go.Proofs.YtdcpiaoadbbdoaaGreatDoor
open Go.RowKit

end Go.Proofs.YtdcpiaoadbbdoaaGreatDoor
