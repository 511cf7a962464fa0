/- The reference of layer 2: Sum, four. -/
import Derived.Test.YtjbhnkigbobhiaaDoorRb
import Derived.Test.YtjbhnkigbobhiaaDoorRnum
namespace Go.Proofs.YtjbhnkigbobhiaaDoor
open Go.RowKit

set_option maxHeartbeats 400000 in
theorem refSum_any (s : ByteArray) (w : World) (hs : s.size ≤ maxLen) :
    Calls Tryd.prog 47 #[.string s] w fun e w' => e = .returned (.int .u32 (sumOf s.data.toList)) ∧ w = w' := by
  unfold maxLen at hs
  go_enter Tryd.func47, Tryd.ntmps47
  go_wp2
  go_loop [3, 4, 5] (fun a b i => ∃ k : Nat, k ≤ s.size ∧ i = .int .i64 k ∧ a = .int .u32 (adlOf (s.data.toList.take k)).1 ∧ b = .int .u32 (adlOf (s.data.toList.take k)).2) (fun _ _ i => s.size - (intOf i).toNat)
  case atStart => exact ⟨0, Nat.zero_le _, rfl, rfl, rfl⟩
  case round =>
    obtain ⟨k, hk, rfl, rfl, rfl⟩ := hrel
    obtain ⟨⟨pa, pb⟩, hP⟩ : ∃ p, adlOf (s.data.toList.take k) = p := ⟨_, rfl⟩
    have hlt1 := adlOf_lt (s.data.toList.take k)
    rw [hP] at hlt1 ⊢
    obtain ⟨ha, hb⟩ := hlt1
    simp only at ha hb
    by_cases hlt : k < s.size
    · have HS : Hid (adlOf (s.data.toList.take (k + 1)) = adl (pa, pb) s[k]) := by show _ = _; rw [take_snoc s k hlt, adlOf_snoc, hP]
      clear hP
      have hc : (s[k].toNat : Int) < 256 := by have := s[k].toNat_lt; omega
      go_wp2
      go_round
      case rel => exact ⟨k + 1, by omega, by go_num, by rw [HS.out]; exact valU32 (by simp [adl]), by rw [HS.out]; exact valU32 (by simp [adl])⟩
      case measure => simp [intOf]; omega
    · have hke : k = s.size := by omega
      have HE : Hid (adlOf s.data.toList = (pa, pb)) := by show _ = _; rw [← hP, List.take_of_length_le (by simp; omega)]
      clear hP hke
      go_wp2
      go_ret
      exact ⟨retU32 (by unfold sumOf; rw [HE.out]; simp), rfl⟩
set_option maxHeartbeats 400000 in
theorem refFour_any (v : Int) (h0 : 0 ≤ v) (hv : v < 4294967296) (w : World) :
    Calls Tryd.prog 46 #[.int .u32 v] w fun e w' => e = .returned (.string ⟨(fourB v.toNat).toArray⟩) ∧ Below w.heap.size w w' := by
  have hc := four_new
  go_enter Tryd.func46, Tryd.ntmps46
  go_wp2_with fail
  go_ret
  exact ⟨retS4 (fourB_is (by omega) (by omega) (by omega) (by omega)), (Below.refl _ _).alloc (Nat.le_refl _) _⟩
end Go.Proofs.YtjbhnkigbobhiaaDoor
/- The reference of layer 2: Put. -/
namespace Go.Proofs.YtjbhnkigbobhiaaDoor
open Go.RowKit

theorem refPut_big (s : ByteArray) (w : World) (hs : 65536 < s.size) :
    Calls Tryd.prog 26 #[.string s] w fun e w' => e = .returned (.tuple #[.string ⟨#[]⟩, .int .i64 4]) ∧ w = w' := by
  go_enter Tryd.func26, Tryd.ntmps26
  go_wp2_with fail
  go_ret2
  exact ⟨rfl, rfl⟩
set_option maxHeartbeats 400000 in
theorem refPut_any (s : ByteArray) (w : World) (hs : s.size ≤ 65536) :
    Calls Tryd.prog 26 #[.string s] w fun e w' => e = .returned (.tuple #[.string ⟨(putB s.data.toList).toArray⟩, .int .i64 0]) ∧ Below w.heap.size w w' := by
  have hN := numB_le s.size
  have hF := Nat.le_of_eq (len_four (sumOf (numB s.size ++ s.data.toList)))
  have hL : Hid (s.data.toList.length = s.size) := by show _ = _; rw [Array.length_toList]; rfl
  go_enter Tryd.func26, Tryd.ntmps26
  go_wp2_with fail
  refine (refNum_any _ _ (by omega) (by omega)).mono ?_
  rintro e w1 ⟨rfl, hb1⟩
  go_wp2_with fail
  refine (refSum_any _ _ (by rw [ByteArray.size_append, size_arr]; unfold maxLen; omega)).mono ?_
  rintro e w1 ⟨rfl, rfl⟩
  go_wp2_with fail
  refine (refFour_any _ (by omega) (sumOf_lt _) _).mono ?_
  rintro e w2 ⟨rfl, hb2⟩
  go_wp2_with fail
  go_ret2
  refine ⟨retStrI ?_, hb1.trans (hb2.mono hb1.size)⟩
  rw [app_mk, app_mk]
  unfold putB
  rw [hL.out]
end Go.Proofs.YtjbhnkigbobhiaaDoor
