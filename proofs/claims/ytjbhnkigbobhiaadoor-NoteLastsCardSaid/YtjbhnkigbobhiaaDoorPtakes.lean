/- seal.Take. -/
import Derived.Test.YtjbhnkigbobhiaaDoorPsum
import Derived.Test.YtjbhnkigbobhiaaDoorPtake
import Derived.Test.YtjbhnkigbobhiaaDoorTs
import Derived.WalkSmall
import Derived.IntWalk
import Derived.Deep.RegionWith
namespace Go.Proofs.YtjbhnkigbobhiaaDoor
open Go.RowKit

set_option maxHeartbeats 400000 in
theorem takes_err (s : ByteArray) (w : World) (n x : Nat) (r : List UInt8) (hk : Hid (tkNum s.data.toList = (n, r, x))) (hx : x ≠ 0) :
    Calls Tryd.prog 58 #[.string s] w (TsPost s w) := by
  go_enter Tryd.func58, Tryd.ntmps58
  go_wp2_with fail
  refine (take_any _ _).mono ?_
  rintro e w1 ⟨rfl, k, rfl⟩
  unfold tkOut; rw [hk.out]
  have hx2 : (((x : Nat) : Int) == 0) = false := by simpa using hx
  go_wp2_with fail
  go_ret3
  exact tsPost_mk (tkSeal_err hk.out hx) rfl rfl rfl (below_drewN (Below.refl _ _) k)
set_option maxHeartbeats 400000 in
theorem takes_big (s : ByteArray) (w : World) (n : Nat) (r : List UInt8) (hk : Hid (tkNum s.data.toList = (n, r, 0))) (hn : 65536 < n) :
    Calls Tryd.prog 58 #[.string s] w (TsPost s w) := by
  go_enter Tryd.func58, Tryd.ntmps58
  go_wp2_with fail
  refine (take_any _ _).mono ?_
  rintro e w1 ⟨rfl, k, rfl⟩
  unfold tkOut; rw [hk.out]
  go_wp2_with fail
  go_ret3
  exact tsPost_mk (tkSeal_big hk.out hn) rfl rfl rfl (below_drewN (Below.refl _ _) k)
set_option maxHeartbeats 400000 in
theorem takes_more (s : ByteArray) (w : World) (n : Nat) (r : List UInt8) (hk : Hid (tkNum s.data.toList = (n, r, 0))) (hn : n ≤ 65536) (hr : r.length < n + 4) :
    Calls Tryd.prog 58 #[.string s] w (TsPost s w) := by
  go_enter Tryd.func58, Tryd.ntmps58
  go_wp2_with fail
  refine (take_any _ _).mono ?_
  rintro e w1 ⟨rfl, k, rfl⟩
  unfold tkOut; rw [hk.out]
  go_wp2_with fail
  go_ret3
  exact tsPost_mk (tkSeal_more hk.out hn hr) rfl rfl rfl (below_drewN (Below.refl _ _) k)
set_option maxHeartbeats 1000000 in
theorem takes_form (s : ByteArray) (hs : s.size ≤ maxLen) (w : World) (n : Nat) (r : List UInt8) (hk : Hid (tkNum s.data.toList = (n, r, 0))) (hn : n ≤ 65536) (hr : n + 4 ≤ r.length) (hq : Hid (fourB (sumOf (s.data.toList.take (s.data.toList.length - r.length + n))) ≠ (r.drop n).take 4)) :
    Calls Tryd.prog 58 #[.string s] w (TsPost s w) := by
  have hle : r.length ≤ s.size := by have := tkNum_le hk.out; rw [len_data] at this; exact this
  have HM : Hid (s.size ≤ maxLen) := hs
  unfold maxLen at hs
  go_enter Tryd.func58, Tryd.ntmps58
  go_wp2_with fail
  refine (take_any _ _).mono ?_
  rintro e w1 ⟨rfl, k, rfl⟩
  unfold tkOut; rw [hk.out]
  go_wp2_with fail
  have g1 : (0 : Int) ≤ n := by omega
  have g2 : (n : Int) ≤ r.length := by omega
  go_quiet (fail)
  go_wp2_with fail
  obtain ⟨T, hT⟩ : ∃ T : List UInt8, T = r.drop n := ⟨_, rfl⟩
  have e1 : (ByteArray.mk r.toArray).extract n r.length = ⟨T.toArray⟩ := by rw [hT]; exact ext_drop r n
  have hTl : 4 ≤ T.length := by rw [hT, List.length_drop]; omega
  have hTl2 : (4 : Int) ≤ T.length := by omega
  rw [e1]
  have q1 : (((ByteArray.mk T.toArray).extract 0 4).toList == fourB (sumOf (List.take (s.size - (r.length - n)) s.data.toList))) = false := by
    have h := hq.out
    rw [len_data, ← hT, show s.size - r.length + n = s.size - (r.length - n) by omega] at h
    rw [ext_take, ByteArray.toList_mk]
    simpa using fun e => h e.symm
  have HT := Lib.hid hT; clear hT e1
  go_region_with ((go_at_call 44; refine (tail_any _ _ ?_).mono ?_; (rw [ByteArray.size_extract]; unfold maxLen; omega); rintro e w1 ⟨rfl, hb⟩))
  all_goals
    (go_wp2_with fail)
    go_ret3
    exact tsPost_mk (tkSeal_form hk.out hn hr hq.out) rfl rfl rfl ((below_drewN (Below.refl _ _) _).trans hb)
set_option maxHeartbeats 1000000 in
theorem takes_ok (s : ByteArray) (hs : s.size ≤ maxLen) (w : World) (n : Nat) (r : List UInt8) (hk : Hid (tkNum s.data.toList = (n, r, 0))) (hn : n ≤ 65536) (hr : n + 4 ≤ r.length) (hq : Hid (fourB (sumOf (s.data.toList.take (s.data.toList.length - r.length + n))) = (r.drop n).take 4)) :
    Calls Tryd.prog 58 #[.string s] w (TsPost s w) := by
  have hle : r.length ≤ s.size := by have := tkNum_le hk.out; rw [len_data] at this; exact this
  have HM : Hid (s.size ≤ maxLen) := hs
  unfold maxLen at hs
  go_enter Tryd.func58, Tryd.ntmps58
  go_wp2_with fail
  refine (take_any _ _).mono ?_
  rintro e w1 ⟨rfl, k, rfl⟩
  unfold tkOut; rw [hk.out]
  go_wp2_with fail
  have g1 : (0 : Int) ≤ n := by omega
  have g2 : (n : Int) ≤ r.length := by omega
  go_quiet (fail)
  go_wp2_with fail
  obtain ⟨T, hT⟩ : ∃ T : List UInt8, T = r.drop n := ⟨_, rfl⟩
  have e1 : (ByteArray.mk r.toArray).extract n r.length = ⟨T.toArray⟩ := by rw [hT]; exact ext_drop r n
  have hTl : 4 ≤ T.length := by rw [hT, List.length_drop]; omega
  have hTl2 : (4 : Int) ≤ T.length := by omega
  rw [e1]
  have q1 : (((ByteArray.mk T.toArray).extract 0 4).toList == fourB (sumOf (List.take (s.size - (r.length - n)) s.data.toList))) = true := by
    have h := hq.out
    rw [len_data, ← hT, show s.size - r.length + n = s.size - (r.length - n) by omega] at h
    rw [ext_take, ByteArray.toList_mk]
    rw [h]; simp
  have HT := Lib.hid hT; clear hT e1
  go_region_with ((go_at_call 44; refine (tail_any _ _ ?_).mono ?_; (rw [ByteArray.size_extract]; unfold maxLen; omega); rintro e w1 ⟨rfl, hb⟩))
  all_goals
    (go_wp2_with fail)
    go_quiet (fail)
    (go_wp2_with fail)
    go_ret3
    exact tsPost_mk (tkSeal_ok hk.out hn hr hq.out) (ext_take r n) (by rw [ext_drop T 4, HT.out, List.drop_drop]) rfl (below_drewN ((below_drewN (Below.refl _ _) _).trans hb) _)
/-- seal.Take, every bytes. -/
theorem takes_any (s : ByteArray) (hs : s.size ≤ maxLen) (w : World) : Calls Tryd.prog 58 #[.string s] w (TsPost s w) := by
  obtain ⟨n, r, x, hk⟩ : ∃ n r x, tkNum s.data.toList = (n, r, x) := ⟨_, _, _, rfl⟩
  by_cases hx : x = 0
  · subst hx
    by_cases hn : 65536 < n
    · exact takes_big s w n r (Lib.hid hk) hn
    by_cases hr : r.length < n + 4
    · exact takes_more s w n r (Lib.hid hk) (by omega) hr
    by_cases hq : fourB (sumOf (s.data.toList.take (s.data.toList.length - r.length + n))) = (r.drop n).take 4
    · exact takes_ok s hs w n r (Lib.hid hk) (by omega) (by omega) (Lib.hid hq)
    · exact takes_form s hs w n r (Lib.hid hk) (by omega) (by omega) (Lib.hid hq)
  · exact takes_err s w n x r (Lib.hid hk) hx
end Go.Proofs.YtjbhnkigbobhiaaDoor
