/- SealTakes: whatever bytes there are, the sealed text that begins them, and what stands behind it, are as the document says. -/
import Derived.Test.YtlpdoebmgfcfdaaDoorShown
import Derived.Test.YtlpdoebmgfcfdaaDoorPtakes
import Derived.Test.YtlpdoebmgfcfdaaDoorRtakes
namespace Go.Proofs.YtlpdoebmgfcfdaaDoor
open Go.RowKit

set_option maxHeartbeats 400000 in
theorem law_SealTakes (s : ByteArray) (hs : s.size ≤ maxLen) (w : World) (hT : Tz w) : Calls Tryd.prog 5 #[.string s] w fun e w' => e = .returned (.bool true) ∧ Below w.heap.size w w' := by
  have HM := Lib.hid hs; clear hs
  go_enter Tryd.func5, Tryd.ntmps5
  go_wp2_with fail
  refine (shown_any _ hT).mono ?_
  rintro e w1 ⟨rfl, hb1⟩
  go_wp2_with fail
  refine (takes_any _ HM.out _).mono ?_
  rintro e w2 ⟨rfl, hb2⟩
  go_wp2_with fail
  refine (refTakes_any _ HM.out _).mono ?_
  rintro e w3 ⟨rfl, hb3⟩
  generalize tkSeal s.data.toList = X
  go_wp2_with fail
  go_ret
  exact ⟨by simp, (hb1.trans (hb2.mono hb1.size)).trans (hb3.mono (Nat.le_trans hb1.size hb2.size))⟩
end Go.Proofs.YtlpdoebmgfcfdaaDoor
