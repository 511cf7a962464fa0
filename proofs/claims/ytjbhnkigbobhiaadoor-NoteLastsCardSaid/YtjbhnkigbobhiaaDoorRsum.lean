/- The reference of layer 2: Sum, four. -/
import Derived.Test.YtjbhnkigbobhiaaDoorNt
import Derived.Test.YtjbhnkigbobhiaaDoorRb
namespace Go.Proofs.YtjbhnkigbobhiaaDoor
open Go.RowKit

set_option maxHeartbeats 400000 in
theorem refSum_any (s : ByteArray) (w : World) (hs : s.size ≤ maxLen) :
    Calls Tryd.prog 47 #[.string s] w fun e w' => e = .returned (.int .u32 (sumOf s.data.toList)) ∧ w = w' := by
  unfold maxLen at hs
  go_enter Tryd.func47, Tryd.ntmps47
  go_wp2
  go_loop [3, 4, 5] (fun a b i => ∃ k : Nat, k ≤ s.size ∧ i = .int .i64 k ∧ a = .int .u32 (adlOf (s.data.toList.take k)).1 ∧ b = .int .u32 (adlOf (s.data.toList.take k)).2) (fun _ _ i => s.size - (intOf i).toNat)
  case atStart => exact ⟨0, Nat.zero_le _, rfl, rfl, rfl⟩
  case round =>
    obtain ⟨k, hk, rfl, rfl, rfl⟩ := hrel
    obtain ⟨⟨pa, pb⟩, hP⟩ : ∃ p, adlOf (s.data.toList.take k) = p := ⟨_, rfl⟩
    have hlt1 := adlOf_lt (s.data.toList.take k)
    rw [hP] at hlt1 ⊢
    obtain ⟨ha, hb⟩ := hlt1
    simp only at ha hb
    by_cases hlt : k < s.size
    · have HS : Hid (adlOf (s.data.toList.take (k + 1)) = adl (pa, pb) s[k]) := by show _ = _; rw [take_snoc s k hlt, adlOf_snoc, hP]
      clear hP
      have hc : (s[k].toNat : Int) < 256 := by have := s[k].toNat_lt; omega
      go_wp2
      go_round
      case rel => exact ⟨k + 1, by omega, by go_num, by rw [HS.out]; exact valU32 (by simp [adl]), by rw [HS.out]; exact valU32 (by simp [adl])⟩
      case measure => simp [intOf]; omega
    · have hke : k = s.size := by omega
      have HE : Hid (adlOf s.data.toList = (pa, pb)) := by show _ = _; rw [← hP, List.take_of_length_le (by simp; omega)]
      clear hP hke
      go_wp2
      go_ret
      exact ⟨retU32 (by unfold sumOf; rw [HE.out]; simp), rfl⟩
set_option maxHeartbeats 400000 in
theorem refFour_any (v : Int) (h0 : 0 ≤ v) (hv : v < 4294967296) (w : World) :
    Calls Tryd.prog 46 #[.int .u32 v] w fun e w' => e = .returned (.string ⟨(fourB v.toNat).toArray⟩) ∧ Below w.heap.size w w' := by
  have hc := four_new
  go_enter Tryd.func46, Tryd.ntmps46
  go_wp2_with fail
  go_ret
  exact ⟨retS4 (fourB_is (by omega) (by omega) (by omega) (by omega)), (Below.refl _ _).alloc (Nat.le_refl _) _⟩
end Go.Proofs.YtjbhnkigbobhiaaDoor
