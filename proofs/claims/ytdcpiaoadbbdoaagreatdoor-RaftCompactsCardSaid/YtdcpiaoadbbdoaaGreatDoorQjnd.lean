/- A leader's entries are joined: entries that are not committed are replaced. -/
import Derived.Test.YtdcpiaoadbbdoaaGreatDoorRb
import Derived.Test.YtdcpiaoadbbdoaaGreatDoorQmy
import Derived.Test.YtdcpiaoadbbdoaaGreatDoorQfo
set_option maxRecDepth 100000
set_option maxHeartbeats 16000000
namespace Go.Proofs.YtdcpiaoadbbdoaaGreatDoor
open Go.RowKit

end Go.Proofs.YtdcpiaoadbbdoaaGreatDoor
