/- The document's examples, which stand at the head of all statements of layer 2. -/
import Derived.Test.YtlpdoebmgfcfdaaDoorPput
namespace Go.Proofs.YtlpdoebmgfcfdaaDoor
open Go.RowKit

set_option maxHeartbeats 400000 in
theorem shown_any (w : World) (hT : Tz w) : Calls Tryd.prog 11 #[] w fun e w' => e = .returned (.bool true) ∧ Below w.heap.size w w' := by
  have hS : sumOf (ByteArray.mk #[87, 105, 107, 105, 112, 101, 100, 105, 97]).data.toList = 300286872 := by decide +kernel
  have hP : putB (ByteArray.mk #[]).data.toList = [0, 0, 1, 0, 1] := by decide +kernel
  have HS := Lib.hid hS; clear hS
  have HP := Lib.hid hP; clear hP
  go_enter Tryd.func11, Tryd.ntmps11
  go_wp2_with fail
  refine (sum_any _ _ (by decide)).mono ?_
  rintro e w1 ⟨rfl, hb1⟩
  rw [HS.out]
  go_wp2_with fail
  refine (put_any _ _ (by decide) (hT.below (hb1.mono hT.n))).mono ?_
  rintro e w2 ⟨rfl, hb2⟩
  rw [HP.out]
  go_wp2_with fail
  go_ret
  exact ⟨rfl, hb1.trans (hb2.mono hb1.size)⟩
end Go.Proofs.YtlpdoebmgfcfdaaDoor
