/- seal.Put. -/
import Derived.Test.YtjbhnkigbobhiaaDoorPsum
import Derived.Test.YtjbhnkigbobhiaaDoorPnum
namespace Go.Proofs.YtjbhnkigbobhiaaDoor
open Go.RowKit

theorem put_big (s : ByteArray) (w : World) (hs : 65536 < s.size) :
    Calls Tryd.prog 23 #[.string s] w fun e w' => e = .returned (.tuple #[.string ⟨#[]⟩, .int .i64 4]) ∧ w = w' := by
  go_enter Tryd.func23, Tryd.ntmps23
  go_wp2_with fail
  go_ret2
  exact ⟨rfl, rfl⟩
set_option maxHeartbeats 400000 in
theorem put_any (s : ByteArray) (w : World) (hs : s.size ≤ 65536) (hT : Tz w) :
    Calls Tryd.prog 23 #[.string s] w fun e w' => e = .returned (.tuple #[.string ⟨(putB s.data.toList).toArray⟩, .int .i64 0]) ∧ Below w.heap.size w w' := by
  have hN := numB_le s.size
  have hF := Nat.le_of_eq (len_four (sumOf (numB s.size ++ s.data.toList)))
  have hL : Hid (s.data.toList.length = s.size) := by show _ = _; rw [Array.length_toList]; rfl
  go_enter Tryd.func23, Tryd.ntmps23
  go_wp2_with fail
  refine (num_any _ _ (by omega) (by omega) hT).mono ?_
  rintro e w1 ⟨rfl, hb1⟩
  go_wp2_with fail
  refine (tail_any _ _ (by rw [ByteArray.size_append, size_arr]; unfold maxLen; omega)).mono ?_
  rintro e w3 ⟨rfl, hb3⟩
  go_wp2_with fail
  go_ret2
  refine ⟨retStrI ?_, hb1.trans (hb3.mono hb1.size)⟩
  rw [app_mk, app_mk]
  unfold putB
  rw [hL.out]
end Go.Proofs.YtjbhnkigbobhiaaDoor
