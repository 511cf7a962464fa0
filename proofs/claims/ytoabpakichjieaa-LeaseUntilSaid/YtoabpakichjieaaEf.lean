/- The program's Bound. -/
import Derived.Test.YtoabpakichjieaaEd
namespace Go.Proofs.Ytoabpakichjieaa
open Go.RowKit

/-- What is known of the library's count of leading zeros. -/
def Lead : Prop := ∀ (x : Nat) (w : World), x ≤ 18446744073709551615 → Calls Try.prog 35 #[.int .u64 x] w fun e w' => e = .returned (.int .i64 ((64 - Lib.bitLen x : Nat) : Int)) ∧ w = w'
/-- What Div64 answers. -/
def DvP (w : World) (q : Nat) (e : Ending) (w' : World) : Prop := ∃ (r : Int) (n : Nat), e = .returned (.tuple #[.int .u64 (q : Nat), .int .u64 r]) ∧ w' = w.drewN n
set_option maxHeartbeats 1000000 in
theorem div64_all (hL : Lead) (hi lo y q : Nat) (h1 : hi < y) (h2 : y < 18446744073709551616) (h3 : lo < 18446744073709551616) (hq : (hi * 18446744073709551616 + lo) / y = q) (w : World) :
    Calls Try.prog 19 #[.int .u64 hi, .int .u64 lo, .int .u64 y] w (DvP w q) := by
  subst hq
  by_cases h0 : 0 < hi
  · refine (div64_any hL hi lo y h0 h1 h2 h3 w).mono ?_
    rintro e w' ⟨⟨r, rfl⟩, rfl⟩
    exact ⟨r, 0, rfl, rfl⟩
  · obtain rfl : hi = 0 := by omega
    rw [Nat.zero_mul, Nat.zero_add]
    have g1 : ((y : Int) == 0) = false := by simp; omega
    have g2 : ¬ (y : Int) = 0 := by omega
    have g3 : ¬ (y : Int) ≤ 0 := by omega
    obtain ⟨q, hq⟩ : ∃ q, lo / y = q := ⟨_, rfl⟩
    rw [hq]
    have hqb : q ≤ lo := by rw [← hq]; exact Nat.div_le_self _ _
    have E1 : (lo : Int).tdiv (y : Int) = (q : Int) := by rw [← hq]; rfl
    have E2 : (lo : Int) / (y : Int) = (q : Int) := by rw [← hq]; rfl
    clear hq hL
    go_enter Try.func19, Try.ntmps19
    go_wp2_with fail
    go_quiet (fail)
    go_wp2_with fail
    go_ret2
    exact ⟨_, _, rfl, rfl⟩
set_option maxHeartbeats 2000000 in
theorem pBound_of (hL : Lead) (s d : Nat) (hs : s < 18446744073709551616) (hd : d < 18446744073709551616) (w : World) :
    Calls Try.prog 10 #[.int .u64 s, .int .u64 d] w fun e w' => e = .returned (.int .u64 (bnd s d : Nat)) ∧ Below w.heap.size w w' := by
  by_cases h2 : d < 2
  · have g : (d : Int) < 2 := by omega
    rw [bnd_zero_lt h2]
    go_enter Try.func10, Try.ntmps10
    go_wp2_with fail
    go_ret
    exact ⟨rfl, Below.refl _ _⟩
  have g : ¬ (d : Int) < 2 := by omega
  rw [bnd_two (by omega)]
  obtain ⟨d1, hd1⟩ : ∃ x, d - 1 = x := ⟨_, rfl⟩
  have g1 : (d : Int) - 1 = (d1 : Int) := by omega
  have hd1b : d1 < 18446744073709551616 := by omega
  rw [hd1]
  obtain ⟨h, hh⟩ : ∃ x, s * d1 / 18446744073709551616 = x := ⟨_, rfl⟩
  obtain ⟨l, hl⟩ : ∃ x, s * d1 % 18446744073709551616 = x := ⟨_, rfl⟩
  have T1 := Lib.hid (fun w => times_any s d1 h l hs hd1b hh hl w)
  have hsum : h * 18446744073709551616 + l = s * d1 := by
    have := Nat.div_add_mod (s * d1) 18446744073709551616
    omega
  have hhd : h ≤ d1 := by
    rw [← hh]
    refine Nat.div_le_of_le_mul ?_
    exact Nat.mul_le_mul_right _ (by omega)
  have hlb : l < 18446744073709551616 := by omega
  by_cases hm : d = 18446744073709551615
  · have g2 : ((d : Int) == 18446744073709551615) = true := by simp; omega
    have HR := Lib.hid (show s * d1 / (d + 1) = h by rw [← hh, hm])
    clear hh hl hsum hd1 hm
    go_enter Try.func10, Try.ntmps10
    go_wp2_with fail
    refine (T1.out _).mono ?_
    rintro e w1 ⟨rfl, hb1⟩
    go_wp2_with fail
    go_ret
    exact ⟨by rw [HR.out]; first | rfl | simp, hb1.alloc hb1.size _⟩
  · have g2 : ((d : Int) == 18446744073709551615) = false := by simp; omega
    obtain ⟨d2, hd2⟩ : ∃ x, d + 1 = x := ⟨_, rfl⟩
    have g3 : (d : Int) + 1 = (d2 : Int) := by omega
    rw [hd2]
    have hd2b : (d2 : Int) < 18446744073709551616 := by omega
    obtain ⟨q, hq⟩ : ∃ q, s * d1 / d2 = q := ⟨_, rfl⟩
    rw [hq]
    have D := Lib.hid (fun w => div64_all hL h l d2 q (by omega) (by omega) hlb ((congrArg (fun z => z / d2) hsum).trans hq) w)
    clear hh hl hsum hd1 hm hq hd2 hL
    go_enter Try.func10, Try.ntmps10
    go_wp2_with fail
    refine (T1.out _).mono ?_
    rintro e w1 ⟨rfl, hb1⟩
    have HB := Lib.hid (hb1.alloc hb1.size (.cells #[.int .u64 h, .int .u64 l] 45))
    clear hb1
    go_wp2_with fail
    refine (D.out _).mono ?_
    rintro e w2 ⟨r, n, rfl, rfl⟩
    go_wp2_with fail
    go_ret
    exact ⟨rfl, below_drewN HB.out _⟩
end Go.Proofs.Ytoabpakichjieaa
