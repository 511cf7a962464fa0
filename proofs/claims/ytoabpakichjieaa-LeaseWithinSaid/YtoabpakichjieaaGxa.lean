/- The library's comparison of two numbers. -/
import Derived.Test.YtoabpakichjieaaGa
namespace Go.Proofs.Ytoabpakichjieaa
open Go.RowKit

/-- The comparison: the greater one first. -/
def cfD (x y : Nat) : Int := if y < x then -1 else if x < y then 1 else 0
theorem isNaN_any (x : Nat) (w : World) : Calls Try.prog 54 #[.int .u64 x] w fun e w' => e = .returned (.bool false) ∧ w = w' := by
  go_enter Try.func54, Try.ntmps54
  go_wp2_with fail
  go_ret
  exact ⟨by simp, rfl⟩
set_option maxHeartbeats 1000000 in
theorem compare_any (x y : Nat) (w : World) : Calls Try.prog 41 #[.int .u64 x, .int .u64 y] w fun e w' => e = .returned (.int .i64 (cfD y x)) ∧ w = w' := by
  by_cases h1 : x < y
  · have e1 : cfD y x = -1 := by simp [cfD, h1]
    have g1 : (x : Int) < (y : Int) := by omega
    rw [e1]
    go_enter Try.func41, Try.ntmps41
    go_wp2_with fail
    refine (isNaN_any x _).mono ?_
    rintro e w2 ⟨rfl, rfl⟩
    go_wp2_with fail
    refine (isNaN_any y _).mono ?_
    rintro e w2 ⟨rfl, rfl⟩
    go_wp2_with fail
    go_ret
    exact ⟨rfl, rfl⟩
  have g1 : ¬ (x : Int) < (y : Int) := by omega
  by_cases h2 : y < x
  · have e1 : cfD y x = 1 := by simp [cfD, h1, h2]
    have g2 : (y : Int) < (x : Int) := by omega
    rw [e1]
    go_enter Try.func41, Try.ntmps41
    go_wp2_with fail
    refine (isNaN_any x _).mono ?_
    rintro e w2 ⟨rfl, rfl⟩
    go_wp2_with fail
    refine (isNaN_any y _).mono ?_
    rintro e w2 ⟨rfl, rfl⟩
    go_wp2_with fail
    go_ret
    exact ⟨rfl, rfl⟩
  · have e1 : cfD y x = 0 := by simp [cfD, h1, h2]
    have g2 : ¬ (y : Int) < (x : Int) := by omega
    rw [e1]
    go_enter Try.func41, Try.ntmps41
    go_wp2_with fail
    refine (isNaN_any x _).mono ?_
    rintro e w2 ⟨rfl, rfl⟩
    go_wp2_with fail
    refine (isNaN_any y _).mono ?_
    rintro e w2 ⟨rfl, rfl⟩
    go_wp2_with fail
    go_ret
    exact ⟨rfl, rfl⟩
end Go.Proofs.Ytoabpakichjieaa
