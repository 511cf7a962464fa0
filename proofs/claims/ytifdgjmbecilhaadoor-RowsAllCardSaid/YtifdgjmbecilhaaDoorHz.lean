/- The program's contracts, in one place. -/
import Derived.Test.YtifdgjmbecilhaaDoorHk
import Derived.Test.YtifdgjmbecilhaaDoorHl
import Derived.Test.YtifdgjmbecilhaaDoorHn
import Derived.Test.YtifdgjmbecilhaaDoorUm
import Derived.Test.YtifdgjmbecilhaaDoorTabs
namespace Go.Proofs.YtifdgjmbecilhaaDoor
open Go.RowKit

theorem pRows : PRows Tz where
  below hT hb := hT.below (hb.mono hT.n)
  right n c a L hn hl hs w _ hM := pRight_any n c a L hn hl hs w hM
  get key n c a L hn hl _ _ w _ hM := pGet_any key n c a L hn hl w hM
  fits n c a P hn hl hs w _ hM := pFits_any n c a P hn hl hs w hM
  do_ n c ver a L p hn _ _ hl _ h1 h2 _ w _ hM := pDo_any n c ver a L p hn hl h1 h2 w hM
  all n c m e ver a a2 L P hn _ _ hl hs hm hl2 hsp _ w _ hM hP := pAll_any n c m e ver a a2 L P hn hl hs hm (by omega) hsp w hM hP
  bytes n c a L hn hl hs w hT hM := pBytes_any n c a L hn hl hs w hT hM
  take s hs w _ := pTake_any s hs w
end Go.Proofs.YtifdgjmbecilhaaDoor
