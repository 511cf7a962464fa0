/- The reference of layer 2: Put. -/
import Derived.Test.YtjbhnkigbobhiaaDoorRsum
import Derived.Test.YtjbhnkigbobhiaaDoorRnum
namespace Go.Proofs.YtjbhnkigbobhiaaDoor
open Go.RowKit

theorem refPut_big (s : ByteArray) (w : World) (hs : 65536 < s.size) :
    Calls Tryd.prog 26 #[.string s] w fun e w' => e = .returned (.tuple #[.string ⟨#[]⟩, .int .i64 4]) ∧ w = w' := by
  go_enter Tryd.func26, Tryd.ntmps26
  go_wp2_with fail
  go_ret2
  exact ⟨rfl, rfl⟩
set_option maxHeartbeats 400000 in
theorem refPut_any (s : ByteArray) (w : World) (hs : s.size ≤ 65536) :
    Calls Tryd.prog 26 #[.string s] w fun e w' => e = .returned (.tuple #[.string ⟨(putB s.data.toList).toArray⟩, .int .i64 0]) ∧ Below w.heap.size w w' := by
  have hN := numB_le s.size
  have hF := Nat.le_of_eq (len_four (sumOf (numB s.size ++ s.data.toList)))
  have hL : Hid (s.data.toList.length = s.size) := by show _ = _; rw [Array.length_toList]; rfl
  go_enter Tryd.func26, Tryd.ntmps26
  go_wp2_with fail
  refine (refNum_any _ _ (by omega) (by omega)).mono ?_
  rintro e w1 ⟨rfl, hb1⟩
  go_wp2_with fail
  refine (refSum_any _ _ (by rw [ByteArray.size_append, size_arr]; unfold maxLen; omega)).mono ?_
  rintro e w1 ⟨rfl, rfl⟩
  go_wp2_with fail
  refine (refFour_any _ (by omega) (sumOf_lt _) _).mono ?_
  rintro e w2 ⟨rfl, hb2⟩
  go_wp2_with fail
  go_ret2
  refine ⟨retStrI ?_, hb1.trans (hb2.mono hb1.size)⟩
  rw [app_mk, app_mk]
  unfold putB
  rw [hL.out]
end Go.Proofs.YtjbhnkigbobhiaaDoor
