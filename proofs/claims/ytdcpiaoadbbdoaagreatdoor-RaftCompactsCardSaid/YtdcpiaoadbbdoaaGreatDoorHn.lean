/- slices.Insert at numbers, amid, where there is no room. -/
import Derived.Test.YtdcpiaoadbbdoaaGreatDoorRb
import Derived.Test.YtdcpiaoadbbdoaaGreatDoorHg
import Derived.Test.YtdcpiaoadbbdoaaGreatDoorQh
import Derived.Test.YtdcpiaoadbbdoaaGreatDoorJd
import Derived.Deep.RegionHeld3
set_option maxRecDepth 100000
set_option maxHeartbeats 16000000
namespace Go.Proofs.YtdcpiaoadbbdoaaGreatDoor
open Go.RowKit Go.Lib



end Go.Proofs.YtdcpiaoadbbdoaaGreatDoor
/- A list without a number: the program's without; the document's less and put. -/
set_option maxRecDepth 100000
set_option maxHeartbeats 16000000
namespace Go.Proofs.YtdcpiaoadbbdoaaGreatDoor
open Go.RowKit Go.Shelf Go.Lib Go.Sort



end Go.Proofs.YtdcpiaoadbbdoaaGreatDoor
