/- pack.Size and its reference: how many bytes a number has. Contracts for every number of 64 bits. -/
import Derived.Test.YtifdgjmbecilhaaDoorRows
import Derived.WalkKit
import Derived.WalkSpells
import Derived.WalkLawsBesides
import Derived.Lib.Hide
namespace Go.Proofs.YtifdgjmbecilhaaDoor
open Go.RowKit

/-- How many bytes a number has: 0 where it is too big. -/
def szOf (v : Int) : Int := if v < 64 then 1 else if v < 16384 then 2 else if v < 1073741824 then 4 else if v < 4611686018427387904 then 8 else 0
theorem szOf1 {v : Int} (h : v < 64) : szOf v = 1 := by unfold szOf; rw [if_pos h]
theorem szOf2 {v : Int} (h : 64 ≤ v) (h2 : v < 16384) : szOf v = 2 := by unfold szOf; rw [if_neg (by omega), if_pos h2]
theorem szOf4 {v : Int} (h : 16384 ≤ v) (h2 : v < 1073741824) : szOf v = 4 := by unfold szOf; rw [if_neg (by omega), if_neg (by omega), if_pos h2]
theorem szOf8 {v : Int} (h : 1073741824 ≤ v) (h2 : v < 4611686018427387904) : szOf v = 8 := by unfold szOf; rw [if_neg (by omega), if_neg (by omega), if_neg (by omega), if_pos h2]
theorem szOf0 {v : Int} (h : 4611686018427387904 ≤ v) : szOf v = 0 := by unfold szOf; rw [if_neg (by omega), if_neg (by omega), if_neg (by omega), if_neg (by omega)]
theorem retI64 {a b : Int} (h : a = b) : Ending.returned (.int .i64 a) = .returned (.int .i64 b) := by rw [h]

theorem refSize_any (v : Int) (w : World) (_h0 : 0 ≤ v) :
    Calls Tryd.prog 54 #[.int .u64 v] w fun e w' => e = .returned (.int .i64 (szOf v)) ∧ w = w' := by
  go_enter Tryd.func54, Tryd.ntmps54
  go_wp2
  all_goals go_ret
  · exact ⟨retI64 (szOf1 (by assumption)).symm, rfl⟩
  · exact ⟨retI64 (szOf2 (by assumption) (by assumption)).symm, rfl⟩
  · exact ⟨retI64 (szOf4 (by assumption) (by assumption)).symm, rfl⟩
  · exact ⟨retI64 (szOf8 (by assumption) (by assumption)).symm, rfl⟩
  · exact ⟨retI64 (szOf0 (by assumption)).symm, rfl⟩
theorem div_t {v c : Int} (h : (v / c == 0) = true) (_h0 : 0 ≤ v) (hc : 0 < c) : v < c := by
  have h1 : v / c = 0 := by simpa using h
  have := Int.lt_ediv_add_one_mul_self v hc; rw [h1] at this; omega
theorem div_f {v c : Int} (h : (v / c == 0) = false) (h0 : 0 ≤ v) (_hc : 0 < c) : c ≤ v := by
  have h1 : v / c ≠ 0 := by simpa using h
  exact Int.not_lt.1 fun hl => h1 (Int.ediv_eq_zero_of_lt h0 hl)
set_option maxHeartbeats 400000 in
theorem size_any (v : Int) (w : World) (h0 : 0 ≤ v) :
    Calls Tryd.prog 51 #[.int .u64 v] w fun e w' => e = .returned (.int .i64 (szOf v)) ∧ w = w' := by
  go_enter Tryd.func51, Tryd.ntmps51
  go_wp2
  refine wp_loop_rounds 5 ?_
  iterate 5 (any_goals (rw [rounds_succ]; go_wp2))
  all_goals go_ret
  · exact ⟨retI64 (szOf1 (div_t ‹(v / 64 == 0) = true› h0 (by decide))).symm, rfl⟩
  · exact ⟨retI64 (szOf2 (div_f ‹(v / 64 == 0) = false› h0 (by decide)) (div_t ‹(v / 16384 == 0) = true› h0 (by decide))).symm, rfl⟩
  · exact ⟨retI64 (szOf4 (div_f ‹(v / 16384 == 0) = false› h0 (by decide)) (div_t ‹(v / 1073741824 == 0) = true› h0 (by decide))).symm, rfl⟩
  · exact ⟨retI64 (szOf8 (div_f ‹(v / 1073741824 == 0) = false› h0 (by decide)) (div_t ‹(v / 4611686018427387904 == 0) = true› h0 (by decide))).symm, rfl⟩
  · exact ⟨retI64 (szOf0 (div_f ‹(v / 4611686018427387904 == 0) = false› h0 (by decide))).symm, rfl⟩
end Go.Proofs.YtifdgjmbecilhaaDoor
