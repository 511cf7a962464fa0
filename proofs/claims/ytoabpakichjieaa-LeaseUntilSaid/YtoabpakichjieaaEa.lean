/- Plain mathematics of layer 10: products in halves and quarters, a long division, the bound, the drift. -/
import Derived.Handy
namespace Go.Proofs.Ytoabpakichjieaa

/-- Two halves of 32 bits, multiplied crosswise: the parts are the product. -/
theorem mul_parts (x0 x1 y0 y1 : Nat) : (x1 * 4294967296 + x0) * (y1 * 4294967296 + y0) = x0 * y0 + (x1 * y0 + x0 * y1) * 4294967296 + x1 * y1 * 18446744073709551616 := by
  rw [show (18446744073709551616 : Nat) = 4294967296 * 4294967296 by decide, Nat.add_mul, Nat.mul_add, Nat.mul_add, Nat.add_mul]
  have a1 : x1 * 4294967296 * (y1 * 4294967296) = x1 * y1 * (4294967296 * 4294967296) := by rw [Nat.mul_mul_mul_comm]
  have a2 : x1 * 4294967296 * y0 = x1 * y0 * 4294967296 := by rw [Nat.mul_right_comm]
  have a3 : x0 * (y1 * 4294967296) = x0 * y1 * 4294967296 := by rw [Nat.mul_assoc]
  rw [a1, a2, a3]; omega
theorem mul_lt' {a b A B : Nat} (ha : a < A) (hb : b < B) : a * b ≤ (A - 1) * (B - 1) := Nat.mul_le_mul (by omega) (by omega)
/-- The upper half of a product by the words of the library. -/
theorem mul_hi (w0 a b u : Nat) (hw : w0 ≤ 18446744065119617025) (ha : a ≤ 18446744065119617025) (hb : b ≤ 18446744065119617025) (_ : u ≤ 18446744065119617025) :
    a + w0 / 4294967296 < 18446744073709551616 ∧ (a + w0 / 4294967296) % 4294967296 + b < 18446744073709551616 ∧ (w0 + (a + b) * 4294967296 + u * 18446744073709551616 < 18446744073709551616 * 18446744073709551616 → u + (a + w0 / 4294967296) / 4294967296 + ((a + w0 / 4294967296) % 4294967296 + b) / 4294967296 = (w0 + (a + b) * 4294967296 + u * 18446744073709551616) / 18446744073709551616) := by
  refine ⟨by omega, by omega, fun _ => ?_⟩
  omega

/-- One digit of a long division: what the two parts of the divisor say of a guess. -/
theorem guess_iff {u v vn1 vn0 un1 q r Q : Nat} (hv : v = vn1 * 4294967296 + vn0) (hu : u = q * vn1 + r) (hQ : Q = (u * 4294967296 + un1) / v) (hv0 : 0 < v) :
    r * 4294967296 + un1 < q * vn0 ↔ Q < q := by
  have e : u * 4294967296 + un1 + q * vn0 = q * v + (r * 4294967296 + un1) := by
    rw [hu, hv, Nat.add_mul, Nat.mul_add, Nat.mul_assoc]; omega
  rw [hQ, Nat.div_lt_iff_lt_mul hv0]
  omega
theorem digit_lt {u v un1 : Nat} (hu : u < v) (h1 : un1 < 4294967296) : (u * 4294967296 + un1) / v < 4294967296 := by
  rw [Nat.div_lt_iff_lt_mul (by omega)]
  have : (u + 1) * 4294967296 ≤ v * 4294967296 := Nat.mul_le_mul_right _ hu
  rw [Nat.add_mul] at this
  rw [Nat.mul_comm 4294967296 v]; omega
/-- The first guess is not too small. -/
theorem guess_ge {u v vn1 vn0 un1 : Nat} (hv : v = vn1 * 4294967296 + vn0) (h1 : un1 < 4294967296) (hv1 : 0 < vn1) : (u * 4294967296 + un1) / v ≤ u / vn1 := by
  rw [Nat.le_div_iff_mul_le hv1]
  generalize hQ : (u * 4294967296 + un1) / v = Q
  have h : Q * v ≤ u * 4294967296 + un1 := by rw [← hQ]; exact Nat.div_mul_le_self _ _
  have e : Q * v = Q * vn1 * 4294967296 + Q * vn0 := by rw [hv, Nat.mul_add, Nat.mul_assoc]
  have := Nat.zero_le (Q * vn0)
  omega
/-- Where the rest is past 32 bits, the guess is right. -/
theorem guess_done {u v vn1 vn0 un1 q r Q : Nat} (hv : v = vn1 * 4294967296 + vn0) (h0 : vn0 < 4294967296) (hu : u = q * vn1 + r) (huv : u < v) (hr : 4294967296 ≤ r) (hQ : Q = (u * 4294967296 + un1) / v) (hq : Q ≤ q) (_ : 0 < vn1) : q = Q := by
  have hlt : q < 4294967296 := by
    rcases Nat.lt_or_ge q 4294967296 with h | h
    · exact h
    · have : 4294967296 * vn1 ≤ q * vn1 := Nat.mul_le_mul_right _ h
      rw [Nat.mul_comm 4294967296 vn1] at this; omega
  have h := guess_iff (un1 := un1) hv hu hQ (by omega : 0 < v)
  have hp : q * vn0 ≤ 4294967295 * 4294967295 := Nat.mul_le_mul (by omega) (by omega)
  clear hQ hu huv hlt hv
  obtain ⟨z, hz⟩ : ∃ z, q * vn0 = z := ⟨_, rfl⟩
  rw [hz] at h hp
  clear hz
  have h2 : ¬ r * 4294967296 + un1 < z := by omega
  have h3 : ¬ Q < q := fun h4 => h2 (h.2 h4)
  omega
/-- Two digits are the quotient. -/
theorem two_digits {u v un1 un0 : Nat} (hv : 0 < v) :
    (u * 18446744073709551616 + un1 * 4294967296 + un0) / v = (u * 4294967296 + un1) / v * 4294967296 + ((u * 4294967296 + un1) % v * 4294967296 + un0) / v := by
  have e : u * 18446744073709551616 + un1 * 4294967296 + un0 = (u * 4294967296 + un1) * 4294967296 + un0 := by omega
  obtain ⟨a, ha⟩ : ∃ a, a = u * 4294967296 + un1 := ⟨_, rfl⟩
  rw [e, ← ha]
  clear e ha
  have h := Nat.div_add_mod a v
  have h2 : a * 4294967296 + un0 = v * (a / v * 4294967296) + (a % v * 4294967296 + un0) := by
    have : v * (a / v * 4294967296) = v * (a / v) * 4294967296 := by rw [Nat.mul_assoc]
    omega
  rw [h2, Nat.mul_add_div hv]
theorem scale_div {a y k : Nat} (hk : 0 < k) : a * k / (y * k) = a / y := Nat.mul_div_mul_right _ _ hk

/-- How long a span is for sure. -/
def bnd (span d : Nat) : Nat := if d < 2 then 0 else span * (d - 1) / (d + 1)
/-- Whether a clock is within the drift. -/
def wit (r l d : Nat) : Bool := decide (2 ≤ d) && (decide (r * (d - 1) ≤ l * d) && decide (l * d ≤ r * (d + 1)))
theorem bnd_le (span d : Nat) : bnd span d ≤ span := by
  unfold bnd
  split
  · omega
  · refine Nat.div_le_of_le_mul ?_
    rw [Nat.mul_comm (d + 1)]
    exact Nat.mul_le_mul_left _ (by omega)
theorem bnd_zero_lt {d : Nat} (h : d < 2) (span : Nat) : bnd span d = 0 := if_pos h
theorem bnd_two {d : Nat} (h : 2 ≤ d) (span : Nat) : bnd span d = span * (d - 1) / (d + 1) := if_neg (by omega)
theorem bnd_lt {span d : Nat} (h : 0 < span) : bnd span d < span := by
  unfold bnd
  split
  · exact h
  · rw [Nat.div_lt_iff_lt_mul (by omega)]
    exact Nat.mul_lt_mul_of_pos_left (by omega) h
theorem bnd_mono {s t d : Nat} (h : s ≤ t) : bnd s d ≤ bnd t d := by
  unfold bnd
  split
  · exact Nat.le_refl _
  · exact Nat.div_le_div_right (Nat.mul_le_mul_right _ h)
theorem bnd_better {s d : Nat} : bnd s d ≤ bnd s (d + 1) := by
  by_cases h : d < 2
  · rw [bnd_zero_lt h]; exact Nat.zero_le _
  · rw [bnd_two (by omega), bnd_two (by omega), Nat.le_div_iff_mul_le (by omega)]
    generalize hq : s * (d - 1) / (d + 1) = q
    have h1 : q * (d + 1) ≤ s * (d - 1) := by rw [← hq]; exact Nat.div_mul_le_self _ _
    have h2 : q ≤ s := by
      have := bnd_le s d
      rw [bnd_two (by omega), hq] at this; exact this
    have e1 : q * (d + 1 + 1) = q * (d + 1) + q := by rw [Nat.mul_add q (d + 1) 1, Nat.mul_one]
    have e2 : s * (d + 1 - 1) = s * (d - 1) + s := by
      have : d + 1 - 1 = (d - 1) + 1 := by omega
      rw [this, Nat.mul_add, Nat.mul_one]
    omega
/-- While the leader's clock has gone on by less than the bound, another one has gone on by less than the span. -/
theorem wit_safe {r o x s d : Nat} (ha : wit r o d = true) (hb : wit r x d = true) (h : o < bnd s d) : x < s := by
  simp only [wit, Bool.and_eq_true, decide_eq_true_eq] at ha hb
  obtain ⟨hd, h1, _⟩ := ha
  obtain ⟨_, _, h2⟩ := hb
  rw [bnd_two hd, Nat.lt_div_iff_mul_lt (by omega)] at h
  refine Classical.byContradiction fun hn => ?_
  have hn : s ≤ x := by omega
  -- r (d-1) ≤ o d; x d ≤ r (d+1); o (d+1) + (d+1-1) < ... 
  have h3 : s * (d - 1) * d ≤ x * d * (d - 1) := by
    rw [Nat.mul_right_comm]
    exact Nat.mul_le_mul_right _ (Nat.mul_le_mul_right _ hn)
  have h4 : x * d * (d - 1) ≤ r * (d + 1) * (d - 1) := Nat.mul_le_mul_right _ h2
  have h5 : r * (d + 1) * (d - 1) = r * (d - 1) * (d + 1) := Nat.mul_right_comm _ _ _
  have h6 : r * (d - 1) * (d + 1) ≤ o * d * (d + 1) := Nat.mul_le_mul_right _ h1
  have h7 : o * d * (d + 1) = o * (d + 1) * d := Nat.mul_right_comm _ _ _
  have h8 : o * (d + 1) * d < s * (d - 1) * d := Nat.mul_lt_mul_of_pos_right (by omega) (by omega)
  omega

/-- A number in four quarters of 32 bits, the lowest first. -/
def qtr (n k : Nat) : Nat := n / 4294967296 ^ k % 4294967296
theorem quarters {h0 h1 h2 h3 n : Nat} (b0 : h0 < 4294967296) (b1 : h1 < 4294967296) (b2 : h2 < 4294967296) (e : n = h0 + h1 * 4294967296 + h2 * 18446744073709551616 + h3 * (18446744073709551616 * 4294967296)) :
    n % 4294967296 = h0 ∧ n / 4294967296 % 4294967296 = h1 ∧ n / 18446744073709551616 % 4294967296 = h2 ∧ n / (18446744073709551616 * 4294967296) = h3 := by
  subst e
  refine ⟨by omega, by omega, by omega, by omega⟩
theorem of_quarters {n : Nat} : n = n % 4294967296 + n / 4294967296 % 4294967296 * 4294967296 + n / 18446744073709551616 % 4294967296 * 18446744073709551616 + n / (18446744073709551616 * 4294967296) * (18446744073709551616 * 4294967296) := by omega
/-- A product by quarters. -/
theorem times_quarters {p q r u n : Nat} (_ : p ≤ 18446744065119617025) (_ : q ≤ 18446744065119617025) (_ : r ≤ 18446744065119617025) (_ : u ≤ 18446744065119617025)
    (e : n = p + (q + r) * 4294967296 + u * 18446744073709551616) :
    let s := p / 4294967296 + q % 4294967296 + r % 4294967296
    let t := s / 4294967296 + q / 4294967296 + r / 4294967296
    let v := t + u % 4294967296
    n % 4294967296 = p % 4294967296 ∧ n / 4294967296 % 4294967296 = s % 4294967296 ∧ n / 18446744073709551616 % 4294967296 = v % 4294967296 ∧ n / (18446744073709551616 * 4294967296) = v / 4294967296 + u / 4294967296 := by
  subst e
  refine ⟨by omega, by omega, by omega, by omega⟩
/-- A sum by quarters. -/
theorem more_quarters {n a : Nat} (_ : a < 18446744073709551616) :
    let s := n % 4294967296 + a % 4294967296
    let t := n / 4294967296 % 4294967296 + a / 4294967296 + s / 4294967296
    let u := n / 18446744073709551616 % 4294967296 + t / 4294967296
    (n + a) % 4294967296 = s % 4294967296 ∧ (n + a) / 4294967296 % 4294967296 = t % 4294967296 ∧ (n + a) / 18446744073709551616 % 4294967296 = u % 4294967296 ∧ (n + a) / (18446744073709551616 * 4294967296) = n / (18446744073709551616 * 4294967296) + u / 4294967296 := by
  intro s t u
  have e := of_quarters (n := n)
  have hs : s = n % 4294967296 + a % 4294967296 := rfl
  have ht : t = n / 4294967296 % 4294967296 + a / 4294967296 + s / 4294967296 := rfl
  have hu : u = n / 18446744073709551616 % 4294967296 + t / 4294967296 := rfl
  clear_value s t u
  generalize n % 4294967296 = n0 at *
  generalize n / 4294967296 % 4294967296 = n1 at *
  generalize n / 18446744073709551616 % 4294967296 = n2 at *
  generalize n / (18446744073709551616 * 4294967296) = n3 at *
  have b0 : s % 4294967296 < 4294967296 := Nat.mod_lt _ (by decide)
  have b1 : t % 4294967296 < 4294967296 := Nat.mod_lt _ (by decide)
  have b2 : u % 4294967296 < 4294967296 := Nat.mod_lt _ (by decide)
  refine quarters b0 b1 b2 ?_
  subst e
  omega
end Go.Proofs.Ytoabpakichjieaa
