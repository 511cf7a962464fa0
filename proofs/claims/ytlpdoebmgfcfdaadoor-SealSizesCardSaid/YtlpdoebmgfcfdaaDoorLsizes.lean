/- SealSizes: a sealed text has the bytes of its length, its own, and four; and begins with its length. -/
import Derived.Test.YtlpdoebmgfcfdaaDoorShown
import Derived.Test.YtlpdoebmgfcfdaaDoorSm
import Derived.Test.YtlpdoebmgfcfdaaDoorPtake
namespace Go.Proofs.YtlpdoebmgfcfdaaDoor
open Go.RowKit

theorem putB_take (s : ByteArray) (h : s.size ≤ 65536) : tkNum (putB s.data.toList) = (s.size, s.data.toList ++ fourB (sumOf (numB s.data.toList.length ++ s.data.toList)), 0) := by
  have := tkNum_numB s.data.toList.length (by rw [len_data]; omega) (s.data.toList ++ fourB (sumOf (numB s.data.toList.length ++ s.data.toList)))
  rw [← List.append_assoc] at this
  unfold putB
  rw [this, len_data]
theorem putB_sizes (s : ByteArray) (h : s.size ≤ 65536) : (((putB s.data.toList).length : Nat) : Int) = szOf s.size + s.size + 4 := by
  rw [len_put, len_data]
  have := numB_len s.size (by omega) (by omega)
  simp at this ⊢; omega
theorem szOf_nonneg (v : Int) : 0 ≤ szOf v := by unfold szOf; repeat (split; omega); omega
theorem szOf_le (v : Int) : szOf v ≤ 8 := by unfold szOf; repeat (split; omega); omega
set_option maxHeartbeats 400000 in
theorem sizes_big (s : ByteArray) (h : 65536 < s.size) (w : World) (hT : Tz w) : Calls Tryd.prog 10 #[.string s] w fun e w' => e = .returned (.bool true) ∧ Below w.heap.size w w' := by
  go_enter Tryd.func10, Tryd.ntmps10
  go_wp2_with fail
  refine (shown_any _ hT).mono ?_
  rintro e w1 ⟨rfl, hb1⟩
  go_wp2_with fail
  refine (put_big _ _ h).mono ?_
  rintro e w2 ⟨rfl, rfl⟩
  go_wp2_with fail
  go_ret
  exact ⟨by simp; omega, hb1⟩
set_option maxHeartbeats 400000 in
theorem sizes_ok (s : ByteArray) (h : s.size ≤ 65536) (w : World) (hT : Tz w) : Calls Tryd.prog 10 #[.string s] w fun e w' => e = .returned (.bool true) ∧ Below w.heap.size w w' := by
  have HK : Hid _ := Lib.hid (putB_take s h)
  have HZ : Hid _ := Lib.hid (putB_sizes s h)
  obtain ⟨R, hR⟩ : ∃ R, s.data.toList ++ fourB (sumOf (numB s.data.toList.length ++ s.data.toList)) = R := ⟨_, rfl⟩
  have q1 : (((ByteArray.mk R.toArray).extract 0 s.size).toList == s.toList) = true := by
    rw [ext_take, ByteArray.toList_mk, ← hR, ← len_data, List.take_left, ByteArray.toList_eq]; simp
  have hRl : s.size ≤ R.length := by rw [← hR, ← len_data]; simp
  rw [hR] at HK
  clear hR
  go_enter Tryd.func10, Tryd.ntmps10
  go_wp2_with fail
  refine (shown_any _ hT).mono ?_
  rintro e w1 ⟨rfl, hb1⟩
  go_wp2_with fail
  refine (put_any _ _ h (hT.below (hb1.mono hT.n))).mono ?_
  rintro e w2 ⟨rfl, hb2⟩
  go_wp2_with fail
  refine (take_any _ _).mono ?_
  rintro e w3 ⟨rfl, k, rfl⟩
  have e0 : (ByteArray.mk (putB s.data.toList).toArray).data.toList = putB s.data.toList := rfl
  rw [e0, HK.out]; unfold tkOut
  clear e0
  go_wp2_with fail
  refine (size_any _ _ (by omega)).mono ?_
  rintro e w4 ⟨rfl, rfl⟩
  have hz0 : 0 ≤ szOf s.size := szOf_nonneg _
  have hz8 : szOf s.size ≤ 8 := szOf_le _
  have q2 : (((putB s.data.toList).length : Int) == szOf s.size + s.size + 4) = true := by rw [HZ.out]; simp
  generalize szOf s.size = z at *
  go_wp2_with fail
  go_ret
  exact ⟨by simp, (hb1.trans (hb2.mono hb1.size)).trans (below_drewN (Below.refl _ _) _ |>.mono (Nat.le_trans hb1.size hb2.size))⟩
theorem law_SealSizes (s : ByteArray) (_hs : s.size ≤ 140737488351232) (w : World) (hT : Tz w) : Calls Tryd.prog 10 #[.string s] w fun e w' => e = .returned (.bool true) ∧ Below w.heap.size w w' := by
  by_cases h : s.size ≤ 65536
  · exact sizes_ok s h w hT
  · exact sizes_big s (by omega) w hT
end Go.Proofs.YtlpdoebmgfcfdaaDoor
