/- The reference of layer 1, Num: a number's bytes, for every number of 64 bits. -/
import Derived.Test.YtifdgjmbecilhaaDoorRb
import Derived.Test.YtifdgjmbecilhaaDoorSl
import Derived.Lib.Hide
namespace Go.Proofs.YtifdgjmbecilhaaDoor
open Go.RowKit
theorem refNum_big (v : Int) (w : World) (h1 : 4611686018427387904 ≤ v) :
    Calls Tryd.prog 39 #[.int .u64 v] w fun e w' => e = .returned (.tuple #[.string ⟨#[]⟩, .int .i64 4]) ∧ w = w' := by
  go_enter Tryd.func39, Tryd.ntmps39
  go_wp2_with (first | (go_at_call 54; refine (refSize_any _ _ (by omega)).mono ?_; rintro e w' ⟨rfl, rfl⟩; rw [szOf0 h1]))
  go_ret2
  exact ⟨rfl, rfl⟩
set_option maxHeartbeats 1000000 in
theorem refNum_1 (v : Int) (w : World) (h0 : 0 ≤ v) (h1 : v < 64) :
    Calls Tryd.prog 39 #[.int .u64 v] w fun e w' => e = .returned (.tuple #[.string ⟨(numB v.toNat).toArray⟩, .int .i64 0]) ∧ Below w.heap.size w w' := by
  have hc := one_byte_at
  go_enter Tryd.func39, Tryd.ntmps39
  go_wp2_with (first | (go_at_call 54; refine (refSize_any _ _ (by omega)).mono ?_; rintro e w' ⟨rfl, rfl⟩; rw [szOf1 h1]))
  refine wp_loop_rounds 2 ?_
  iterate 2 (any_goals (rw [rounds_succ]; go_wp2_with fail))
  go_ret2
  refine ⟨retStr ?_, ?_⟩
  · exact str_1 v h0 h1
  · repeat (first | exact Below.refl _ _ | refine Below.alloc ?_ (by simp <;> omega) _)
set_option maxHeartbeats 1000000 in
theorem refNum_2 (v : Int) (w : World) (h0 : 64 ≤ v) (h1 : v < 16384) :
    Calls Tryd.prog 39 #[.int .u64 v] w fun e w' => e = .returned (.tuple #[.string ⟨(numB v.toNat).toArray⟩, .int .i64 0]) ∧ Below w.heap.size w w' := by
  have hc := one_byte_at
  go_enter Tryd.func39, Tryd.ntmps39
  go_wp2_with (first | (go_at_call 54; refine (refSize_any _ _ (by omega)).mono ?_; rintro e w' ⟨rfl, rfl⟩; rw [szOf2 h0 h1]))
  refine wp_loop_rounds 3 ?_
  iterate 3 (any_goals (rw [rounds_succ]; go_wp2_with fail))
  go_ret2
  refine ⟨retStr ?_, ?_⟩
  · exact str_2 v h0 h1
  · repeat (first | exact Below.refl _ _ | refine Below.alloc ?_ (by simp <;> omega) _)
set_option maxHeartbeats 1000000 in
theorem refNum_4 (v : Int) (w : World) (h0 : 16384 ≤ v) (h1 : v < 1073741824) :
    Calls Tryd.prog 39 #[.int .u64 v] w fun e w' => e = .returned (.tuple #[.string ⟨(numB v.toNat).toArray⟩, .int .i64 0]) ∧ Below w.heap.size w w' := by
  have hc := one_byte_at
  go_enter Tryd.func39, Tryd.ntmps39
  go_wp2_with (first | (go_at_call 54; refine (refSize_any _ _ (by omega)).mono ?_; rintro e w' ⟨rfl, rfl⟩; rw [szOf4 h0 h1]))
  refine wp_loop_rounds 5 ?_
  iterate 5 (any_goals (rw [rounds_succ]; go_wp2_with fail))
  go_ret2
  refine ⟨retStr ?_, ?_⟩
  · exact str_4 v h0 h1
  · repeat (first | exact Below.refl _ _ | refine Below.alloc ?_ (by simp <;> omega) _)
set_option maxHeartbeats 1000000 in
theorem refNum_8 (v : Int) (w : World) (h0 : 1073741824 ≤ v) (h1 : v < 4611686018427387904) :
    Calls Tryd.prog 39 #[.int .u64 v] w fun e w' => e = .returned (.tuple #[.string ⟨(numB v.toNat).toArray⟩, .int .i64 0]) ∧ Below w.heap.size w w' := by
  have hc := one_byte_at
  go_enter Tryd.func39, Tryd.ntmps39
  go_wp2_with (first | (go_at_call 54; refine (refSize_any _ _ (by omega)).mono ?_; rintro e w' ⟨rfl, rfl⟩; rw [szOf8 h0 h1]))
  refine wp_loop_rounds 9 ?_
  iterate 9 (any_goals (rw [rounds_succ]; go_wp2_with fail))
  go_ret2
  refine ⟨retStr ?_, ?_⟩
  · exact str_8 v h0 h1
  · repeat (first | exact Below.refl _ _ | refine Below.alloc ?_ (by simp <;> omega) _)
theorem refNum_any (v : Int) (w : World) (h0 : 0 ≤ v) (h1 : v < 4611686018427387904) :
    Calls Tryd.prog 39 #[.int .u64 v] w fun e w' => e = .returned (.tuple #[.string ⟨(numB v.toNat).toArray⟩, .int .i64 0]) ∧ Below w.heap.size w w' := by
  by_cases a : v < 64
  · exact refNum_1 v w h0 a
  by_cases b : v < 16384
  · exact refNum_2 v w (by omega) b
  by_cases c : v < 1073741824
  · exact refNum_4 v w (by omega) c
  · exact refNum_8 v w (by omega) h1
end Go.Proofs.YtifdgjmbecilhaaDoor
