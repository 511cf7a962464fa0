/- The document's products in four quarters: Times, More, Most. -/
import Derived.Test.YtoabpakichjieaaEb
namespace Go.Proofs.Ytoabpakichjieaa
open Go.RowKit

/-- A number in four quarters, the lowest first. -/
@[reducible] def hfV (a b c d : Nat) : Value := .agg #[.int .u64 (a : Nat), .int .u64 (b : Nat), .int .u64 (c : Nat), .int .u64 (d : Nat)]
/-- The quarters of a number. -/
structure Qt (n a b c d : Nat) : Prop where
  e0 : n % 4294967296 = a
  e1 : n / 4294967296 % 4294967296 = b
  e2 : n / 18446744073709551616 % 4294967296 = c
  e3 : n / (18446744073709551616 * 4294967296) = d
theorem qt_of (n : Nat) : ∃ a b c d, Qt n a b c d := ⟨_, _, _, _, rfl, rfl, rfl, rfl⟩
set_option maxHeartbeats 2000000 in
theorem rTimes_any (x y h0 h1 h2 h3 : Nat) (hx : x < 18446744073709551616) (hy : y < 18446744073709551616) (hq : Qt (x * y) h0 h1 h2 h3) (w : World) :
    Calls Try.prog 20 #[.int .u64 x, .int .u64 y] w fun e w' => e = .returned (hfV h0 h1 h2 h3) ∧ Below w.heap.size w w' := by
  obtain ⟨x0, hx0⟩ : ∃ z, x % 4294967296 = z := ⟨_, rfl⟩
  obtain ⟨x1, hx1⟩ : ∃ z, x / 4294967296 = z := ⟨_, rfl⟩
  obtain ⟨y0, hy0⟩ : ∃ z, y % 4294967296 = z := ⟨_, rfl⟩
  obtain ⟨y1, hy1⟩ : ∃ z, y / 4294967296 = z := ⟨_, rfl⟩
  have ex : x = x1 * 4294967296 + x0 := by omega
  have ey : y = y1 * 4294967296 + y0 := by omega
  obtain ⟨p, hp⟩ : ∃ z, x0 * y0 = z := ⟨_, rfl⟩
  obtain ⟨q, hqq⟩ : ∃ z, x1 * y0 = z := ⟨_, rfl⟩
  obtain ⟨r, hr⟩ : ∃ z, x0 * y1 = z := ⟨_, rfl⟩
  obtain ⟨u, hu⟩ : ∃ z, x1 * y1 = z := ⟨_, rfl⟩
  have bp : p ≤ 18446744065119617025 := by rw [← hp]; exact Nat.mul_le_mul (by omega : x0 ≤ 4294967295) (by omega : y0 ≤ 4294967295)
  have bq : q ≤ 18446744065119617025 := by rw [← hqq]; exact Nat.mul_le_mul (by omega : x1 ≤ 4294967295) (by omega : y0 ≤ 4294967295)
  have br : r ≤ 18446744065119617025 := by rw [← hr]; exact Nat.mul_le_mul (by omega : x0 ≤ 4294967295) (by omega : y1 ≤ 4294967295)
  have bu : u ≤ 18446744065119617025 := by rw [← hu]; exact Nat.mul_le_mul (by omega : x1 ≤ 4294967295) (by omega : y1 ≤ 4294967295)
  have hxy : x * y = p + (q + r) * 4294967296 + u * 18446744073709551616 := by rw [ex, ey, mul_parts, hp, hqq, hr, hu]
  obtain ⟨t0, t1, t2, t3⟩ := times_quarters bp bq br bu hxy
  obtain ⟨k0, k1, k2, k3⟩ := hq
  rw [k0] at t0
  rw [k1] at t1
  rw [k2] at t2
  rw [k3] at t3
  have F1 : (x : Int) % 4294967296 = (x0 : Int) := by omega
  have F2 : (x : Int) / 4294967296 = (x1 : Int) := by omega
  have F3 : (y : Int) % 4294967296 = (y0 : Int) := by omega
  have F4 : (y : Int) / 4294967296 = (y1 : Int) := by omega
  have P1 : IntKind.u64.wrap ((x0 : Int) * (y0 : Int)) = (p : Int) := by rw [mulN, hp]; exact wrapN _ (by omega)
  have P2 : IntKind.u64.wrap ((x1 : Int) * (y0 : Int)) = (q : Int) := by rw [mulN, hqq]; exact wrapN _ (by omega)
  have P3 : IntKind.u64.wrap ((x0 : Int) * (y1 : Int)) = (r : Int) := by rw [mulN, hr]; exact wrapN _ (by omega)
  have P4 : IntKind.u64.wrap ((x1 : Int) * (y1 : Int)) = (u : Int) := by rw [mulN, hu]; exact wrapN _ (by omega)
  have T := Lib.hid (And.intro t0 (And.intro t1 (And.intro t2 t3)))
  have pb : (p : Int) ≤ 18446744065119617025 := by omega
  have qb : (q : Int) ≤ 18446744065119617025 := by omega
  have rb : (r : Int) ≤ 18446744065119617025 := by omega
  have ub : (u : Int) ≤ 18446744065119617025 := by omega
  clear t0 t1 t2 t3 k0 k1 k2 k3 hxy ex ey hp hqq hr hu hx0 hx1 hy0 hy1 bp bq br bu
  go_enter Try.func20, Try.ntmps20
  go_wp2_with fail
  refine bodyPost_ret (v := hfV h0 h1 h2 h3) (by
    have t := T.out
    simp [results, Try.results20, go_sem]
    omega) rfl ⟨rfl, ?_⟩
  go_grown
set_option maxHeartbeats 2000000 in
theorem rMore_any (n a g0 g1 g2 g3 h0 h1 h2 h3 : Nat) (ha : a < 18446744073709551616) (hn : n + a < 340282366920938463463374607431768211456) (hg : Qt n g0 g1 g2 g3) (hq : Qt (n + a) h0 h1 h2 h3) (w : World) :
    Calls Try.prog 22 #[hfV g0 g1 g2 g3, .int .u64 a] w fun e w' => e = .returned (hfV h0 h1 h2 h3) ∧ Below w.heap.size w w' := by
  obtain ⟨t0, t1, t2, t3⟩ := more_quarters (n := n) ha
  have b0 : n % 4294967296 < 4294967296 := Nat.mod_lt _ (by decide)
  have b1 : n / 4294967296 % 4294967296 < 4294967296 := Nat.mod_lt _ (by decide)
  have b2 : n / 18446744073709551616 % 4294967296 < 4294967296 := Nat.mod_lt _ (by decide)
  have b3 : (n + a) / (18446744073709551616 * 4294967296) < 4294967296 := Nat.div_lt_of_lt_mul (Nat.lt_of_lt_of_le hn (by decide))
  obtain ⟨i0, i1, i2, i3⟩ := hg
  obtain ⟨k0, k1, k2, k3⟩ := hq
  rw [k0, i0] at t0
  rw [k1, i0, i1] at t1
  rw [k2, i0, i1, i2] at t2
  rw [k3, i0, i1, i2, i3] at t3
  rw [i0] at b0
  rw [i1] at b1
  rw [i2] at b2
  rw [k3] at b3
  have b4 : g3 < 4294967296 := by rw [t3] at b3; exact Nat.lt_of_le_of_lt (Nat.le_add_right _ _) b3
  clear hn
  obtain ⟨a0, ha0⟩ : ∃ z, a % 4294967296 = z := ⟨_, rfl⟩
  obtain ⟨a1, ha1⟩ : ∃ z, a / 4294967296 = z := ⟨_, rfl⟩
  rw [ha0] at t0 t1 t2 t3
  rw [ha1] at t1 t2 t3
  obtain ⟨c0, hc0⟩ : ∃ z, (g0 + a0) / 4294967296 = z := ⟨_, rfl⟩
  rw [hc0] at t1 t2 t3
  obtain ⟨c1, hc1⟩ : ∃ z, (g1 + a1 + c0) / 4294967296 = z := ⟨_, rfl⟩
  rw [hc1] at t2 t3
  obtain ⟨c2, hc2⟩ : ∃ z, (g2 + c1) / 4294967296 = z := ⟨_, rfl⟩
  rw [hc2] at t3
  have F1 : (a : Int) % 4294967296 = (a0 : Int) := by omega
  have F2 : (a : Int) / 4294967296 = (a1 : Int) := by omega
  have F3 : ((g0 : Int) + (a0 : Int)) % 4294967296 = (h0 : Int) := by omega
  have F4 : ((g0 : Int) + (a0 : Int)) / 4294967296 = (c0 : Int) := by omega
  have F5 : ((g1 : Int) + (a1 : Int) + (c0 : Int)) % 4294967296 = (h1 : Int) := by omega
  have F6 : ((g1 : Int) + (a1 : Int) + (c0 : Int)) / 4294967296 = (c1 : Int) := by omega
  have F7 : ((g2 : Int) + (c1 : Int)) % 4294967296 = (h2 : Int) := by omega
  have F8 : ((g2 : Int) + (c1 : Int)) / 4294967296 = (c2 : Int) := by omega
  have F9 : (g3 : Int) + (c2 : Int) = (h3 : Int) := by omega
  have n0 : (a0 : Int) < 4294967296 := by omega
  have n1 : (a1 : Int) < 4294967296 := by omega
  have n2 : (c0 : Int) < 4294967296 := by omega
  have n3 : (c1 : Int) < 4294967296 := by omega
  have n4 : (c2 : Int) < 4294967296 := by omega
  have n5 : (h3 : Int) < 4294967296 := by omega
  clear t0 t1 t2 t3 k0 k1 k2 k3 i0 i1 i2 i3 ha0 ha1 hc0 hc1 hc2
  go_enter Try.func22, Try.ntmps22
  go_wp2_with fail
  refine bodyPost_ret (v := hfV h0 h1 h2 h3) (by simp [results, Try.results22, go_sem]) rfl ⟨rfl, ?_⟩
  go_grown
end Go.Proofs.Ytoabpakichjieaa
