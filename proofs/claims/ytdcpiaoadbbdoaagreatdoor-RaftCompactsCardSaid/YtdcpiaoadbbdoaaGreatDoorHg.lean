/- slices.Insert at numbers: at the end; amid, with room; amid, without. -/
import Derived.Test.YtdcpiaoadbbdoaaGreatDoorRb
import Derived.Test.YtdcpiaoadbbdoaaGreatDoorGe
import Derived.Shelf.Spec.SlicesInsertGrow
import Derived.RegionTactic
import Derived.Deep.RegionLaw
set_option maxRecDepth 100000
set_option maxHeartbeats 16000000
namespace Go.Proofs.YtdcpiaoadbbdoaaGreatDoor
open Go.RowKit Go.Lib

end Go.Proofs.YtdcpiaoadbbdoaaGreatDoor
