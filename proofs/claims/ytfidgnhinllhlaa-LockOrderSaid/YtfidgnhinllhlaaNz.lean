/- The program's contracts of layer 12. -/
import Derived.Test.YtfidgnhinllhlaaNj
import Derived.Test.YtfidgnhinllhlaaNk
namespace Go.Proofs.Ytfidgnhinllhlaa
open Go.RowKit

theorem pLocks : PLocks (fun _ => True) where
  below _ _ := trivial
  elder a b w _ := pElder_any a b w
  has n c a L t key wb hn hl hs _ w _ hM := pHas_any n c a L t key wb hn hl hs w hM
  right n c a L hn hl hs w _ hM := pRight_any n c a L hn hl hs w hM
  drop n c a L t hn _ _ hl hs ho w _ hM := pDrop_any n c a L t hn hl hs ho w hM
  ask n c m d a b L t key wb F hn _ _ hl hs ht hm hl2 ho w _ hM hF := pAsk_any n c m d a b L t key wb F hn hl hs ht hm hl2 ho w hM hF
end Go.Proofs.Ytfidgnhinllhlaa
