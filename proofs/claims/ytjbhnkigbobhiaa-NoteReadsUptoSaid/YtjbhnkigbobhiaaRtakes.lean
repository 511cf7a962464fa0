/- The reference of layer 2: Take. -/
import Derived.Test.YtjbhnkigbobhiaaRsum
import Derived.Test.YtjbhnkigbobhiaaRtake
import Derived.Test.YtjbhnkigbobhiaaTs
import Derived.WalkSmall
import Derived.IntWalk
import Derived.Deep.RegionWith
namespace Go.Proofs.Ytjbhnkigbobhiaa
open Go.RowKit

set_option maxHeartbeats 400000 in
theorem refTakes_err (s : ByteArray) (w : World) (n x : Nat) (r : List UInt8) (hk : Hid (tkNum s.data.toList = (n, r, x))) (hx : x ≠ 0) :
    Calls Try.prog 18 #[.string s] w (TsPost s w) := by
  go_enter Try.func18, Try.ntmps18
  go_wp2_with fail
  refine (refTake_any _ _).mono ?_
  rintro e w1 ⟨rfl, k, rfl⟩
  unfold tkOut; rw [hk.out]
  have hx2 : (((x : Nat) : Int) == 0) = false := by simpa using hx
  go_wp2_with fail
  go_ret3
  exact tsPost_mk (tkSeal_err hk.out hx) rfl rfl rfl (below_drewN (Below.refl _ _) k)
set_option maxHeartbeats 400000 in
theorem refTakes_big (s : ByteArray) (w : World) (n : Nat) (r : List UInt8) (hk : Hid (tkNum s.data.toList = (n, r, 0))) (hn : 65536 < n) :
    Calls Try.prog 18 #[.string s] w (TsPost s w) := by
  go_enter Try.func18, Try.ntmps18
  go_wp2_with fail
  refine (refTake_any _ _).mono ?_
  rintro e w1 ⟨rfl, k, rfl⟩
  unfold tkOut; rw [hk.out]
  go_wp2_with fail
  go_ret3
  exact tsPost_mk (tkSeal_big hk.out hn) rfl rfl rfl (below_drewN (Below.refl _ _) k)
set_option maxHeartbeats 400000 in
theorem refTakes_more (s : ByteArray) (w : World) (n : Nat) (r : List UInt8) (hk : Hid (tkNum s.data.toList = (n, r, 0))) (hn : n ≤ 65536) (hr : r.length < n + 4) :
    Calls Try.prog 18 #[.string s] w (TsPost s w) := by
  go_enter Try.func18, Try.ntmps18
  go_wp2_with fail
  refine (refTake_any _ _).mono ?_
  rintro e w1 ⟨rfl, k, rfl⟩
  unfold tkOut; rw [hk.out]
  go_wp2_with fail
  go_ret3
  exact tsPost_mk (tkSeal_more hk.out hn hr) rfl rfl rfl (below_drewN (Below.refl _ _) k)
set_option maxHeartbeats 1000000 in
theorem refTakes_form (s : ByteArray) (hs : s.size ≤ maxLen) (w : World) (n : Nat) (r : List UInt8) (hk : Hid (tkNum s.data.toList = (n, r, 0))) (hn : n ≤ 65536) (hr : n + 4 ≤ r.length) (hq : Hid (fourB (sumOf (s.data.toList.take (s.data.toList.length - r.length + n))) ≠ (r.drop n).take 4)) :
    Calls Try.prog 18 #[.string s] w (TsPost s w) := by
  have hle : r.length ≤ s.size := by have := tkNum_le hk.out; rw [len_data] at this; exact this
  have HM : Hid (s.size ≤ maxLen) := hs
  unfold maxLen at hs
  go_enter Try.func18, Try.ntmps18
  go_wp2_with fail
  refine (refTake_any _ _).mono ?_
  rintro e w1 ⟨rfl, k, rfl⟩
  unfold tkOut; rw [hk.out]
  go_wp2_with fail
  obtain ⟨m, hm⟩ : ∃ m : Nat, m = s.size - r.length + n := ⟨_, rfl⟩
  have w1 : IntKind.i64.wrap (s.size - r.length + n) = (m : Int) := by rw [IntWalk.i64_in _ ⟨by omega, by omega⟩]; omega
  have w2 : IntKind.i64.wrap (n : Int) = n := IntWalk.i64_in _ ⟨by omega, by omega⟩
  have w3 : IntKind.u64.wrap ((n : Int) + 4) = ((n + 4 : Nat) : Int) := by rw [IntKind.wrap_u64]; omega
  have m1 : m ≤ s.size := by omega
  have q1 : (fourB (sumOf (List.take m s.data.toList)) == ((ByteArray.mk r.toArray).extract n (n + 4)).toList) = false := by
    have h := hq.out
    rw [len_data, ← hm] at h
    rw [extract_four]; simpa using h
  have HM2 := Lib.hid hm; clear hm
  go_region_with (first
    | (go_at_call 34; refine (refSum_any _ _ ?_).mono ?_; (rw [ByteArray.size_extract]; unfold maxLen; omega); rintro e w1 ⟨rfl, rfl⟩)
    | (go_at_call 33; refine (refFour_any _ (by omega) (sumOf_lt _) _).mono ?_; rintro e w1 ⟨rfl, hb⟩))
  all_goals
    (go_wp2_with fail)
    go_ret3
    exact tsPost_mk (tkSeal_form hk.out hn hr hq.out) rfl rfl rfl ((below_drewN (Below.refl _ _) _).trans hb)
set_option maxHeartbeats 1000000 in
theorem refTakes_ok (s : ByteArray) (hs : s.size ≤ maxLen) (w : World) (n : Nat) (r : List UInt8) (hk : Hid (tkNum s.data.toList = (n, r, 0))) (hn : n ≤ 65536) (hr : n + 4 ≤ r.length) (hq : Hid (fourB (sumOf (s.data.toList.take (s.data.toList.length - r.length + n))) = (r.drop n).take 4)) :
    Calls Try.prog 18 #[.string s] w (TsPost s w) := by
  have hle : r.length ≤ s.size := by have := tkNum_le hk.out; rw [len_data] at this; exact this
  have HM : Hid (s.size ≤ maxLen) := hs
  unfold maxLen at hs
  go_enter Try.func18, Try.ntmps18
  go_wp2_with fail
  refine (refTake_any _ _).mono ?_
  rintro e w1 ⟨rfl, k, rfl⟩
  unfold tkOut; rw [hk.out]
  go_wp2_with fail
  obtain ⟨m, hm⟩ : ∃ m : Nat, m = s.size - r.length + n := ⟨_, rfl⟩
  have w1 : IntKind.i64.wrap (s.size - r.length + n) = (m : Int) := by rw [IntWalk.i64_in _ ⟨by omega, by omega⟩]; omega
  have w2 : IntKind.i64.wrap (n : Int) = n := IntWalk.i64_in _ ⟨by omega, by omega⟩
  have w3 : IntKind.u64.wrap ((n : Int) + 4) = ((n + 4 : Nat) : Int) := by rw [IntKind.wrap_u64]; omega
  have m1 : m ≤ s.size := by omega
  have q1 : (fourB (sumOf (List.take m s.data.toList)) == ((ByteArray.mk r.toArray).extract n (n + 4)).toList) = true := by
    have h := hq.out
    rw [len_data, ← hm] at h
    rw [extract_four]; simpa using h
  have HM2 := Lib.hid hm; clear hm
  go_region_with (first
    | (go_at_call 34; refine (refSum_any _ _ ?_).mono ?_; (rw [ByteArray.size_extract]; unfold maxLen; omega); rintro e w1 ⟨rfl, rfl⟩)
    | (go_at_call 33; refine (refFour_any _ (by omega) (sumOf_lt _) _).mono ?_; rintro e w1 ⟨rfl, hb⟩))
  all_goals
    (go_wp2_with fail)
    have g1 : (0 : Int) ≤ n := by omega
    have g2 : (n : Int) ≤ r.length := by omega
    have g3 : (0 : Int) ≤ (n : Int) + 4 := by omega
    have g4 : (n : Int) + 4 ≤ r.length := by omega
    have g5 : ((n : Int) + 4).toNat = n + 4 := by omega
    go_quiet (fail)
    (go_wp2_with fail)
    go_ret3
    exact tsPost_mk (tkSeal_ok hk.out hn hr hq.out) (ext_take r n) (ext_drop r (n + 4)) rfl (below_drewN ((below_drewN (Below.refl _ _) _).trans hb) _)
/-- ferruleref02.Take, every bytes. -/
theorem refTakes_any (s : ByteArray) (hs : s.size ≤ maxLen) (w : World) : Calls Try.prog 18 #[.string s] w (TsPost s w) := by
  obtain ⟨n, r, x, hk⟩ : ∃ n r x, tkNum s.data.toList = (n, r, x) := ⟨_, _, _, rfl⟩
  by_cases hx : x = 0
  · subst hx
    by_cases hn : 65536 < n
    · exact refTakes_big s w n r (Lib.hid hk) hn
    by_cases hr : r.length < n + 4
    · exact refTakes_more s w n r (Lib.hid hk) (by omega) hr
    by_cases hq : fourB (sumOf (s.data.toList.take (s.data.toList.length - r.length + n))) = (r.drop n).take 4
    · exact refTakes_ok s hs w n r (Lib.hid hk) (by omega) (by omega) (Lib.hid hq)
    · exact refTakes_form s hs w n r (Lib.hid hk) (by omega) (by omega) (Lib.hid hq)
  · exact refTakes_err s w n x r (Lib.hid hk) hx
end Go.Proofs.Ytjbhnkigbobhiaa
