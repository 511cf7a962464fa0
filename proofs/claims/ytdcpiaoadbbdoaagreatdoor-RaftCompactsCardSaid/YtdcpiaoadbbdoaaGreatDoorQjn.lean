/- A leader's entries are joined: behind the end. -/
import Derived.Test.YtdcpiaoadbbdoaaGreatDoorRb
import Derived.Test.YtdcpiaoadbbdoaaGreatDoorQmy
import Derived.Test.YtdcpiaoadbbdoaaGreatDoorQfo
import Derived.Test.YtdcpiaoadbbdoaaGreatDoorQjna
import Derived.Test.YtdcpiaoadbbdoaaGreatDoorQjnb
import Derived.Test.YtdcpiaoadbbdoaaGreatDoorQjnd
set_option maxRecDepth 100000
set_option maxHeartbeats 16000000
namespace Go.Proofs.YtdcpiaoadbbdoaaGreatDoor
open Go.RowKit



end Go.Proofs.YtdcpiaoadbbdoaaGreatDoor
