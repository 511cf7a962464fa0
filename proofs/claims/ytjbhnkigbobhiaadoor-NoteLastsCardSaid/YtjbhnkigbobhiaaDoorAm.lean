/- Layer 2 in plain words: the sealed texts one behind the other, and what stands behind them. -/
import Derived.Test.YtjbhnkigbobhiaaDoorSm
namespace Go.Proofs.YtjbhnkigbobhiaaDoor
open Go.RowKit

/-- The texts, and what stands behind them; k: how many at most. -/
def allF : Nat → List UInt8 → List (List UInt8) × List UInt8
  | 0, b => ([], b)
  | k + 1, b => if (tkSeal b).2.2 = 0 then ((tkSeal b).1 :: (allF k (tkSeal b).2.1).1, (allF k (tkSeal b).2.1).2) else ([], b)
def allB (b : List UInt8) : List (List UInt8) := (allF (b.length + 1) b).1
def restB (b : List UInt8) : List UInt8 := (allF (b.length + 1) b).2
theorem tkNum_parts {b r : List UInt8} {n : Nat} (h : tkNum b = (n, r, 0)) : (b.length : Int) = szOf n + r.length ∧ 1 ≤ szOf n := by
  unfold tkNum at h
  split at h
  · cases h
  · next c q =>
    split at h
    · cases h
    · next h1 =>
      split at h
      · next h2 =>
        have hp : 1 ≤ tkLen c := by unfold tkLen; exact Nat.one_le_two_pow
        simp only [Prod.mk.injEq, and_true] at h
        obtain ⟨h3, h4⟩ := h
        rw [← h3, ← h4, h2]
        simp only [List.length_cons, List.length_drop]
        omega
      · cases h
/-- A sealed text's bytes: its length's, its own, four, and what stands behind it. -/
theorem tkSeal_parts {b t r : List UInt8} (h : tkSeal b = (t, r, 0)) : (b.length : Int) = szOf t.length + t.length + 4 + r.length ∧ t.length ≤ 65536 ∧ 1 ≤ szOf t.length := by
  obtain ⟨n, q, x, hk⟩ : ∃ n q x, tkNum b = (n, q, x) := ⟨_, _, _, rfl⟩
  by_cases hx : x = 0
  · subst hx
    by_cases hn : 65536 < n
    · rw [tkSeal_big hk hn] at h; cases h
    by_cases hr : q.length < n + 4
    · rw [tkSeal_more hk (by omega) hr] at h; cases h
    by_cases hq : fourB (sumOf (b.take (b.length - q.length + n))) = (q.drop n).take 4
    · rw [tkSeal_ok hk (by omega) (by omega) hq] at h
      simp only [Prod.mk.injEq, and_true] at h
      obtain ⟨h1, h2⟩ := h
      obtain ⟨p1, p2⟩ := tkNum_parts hk
      have e1 : t.length = n := by rw [← h1, List.length_take]; omega
      have e2 : r.length = q.length - (n + 4) := by rw [← h2, List.length_drop]
      rw [e1]
      refine ⟨?_, by omega, p2⟩
      omega
    · rw [tkSeal_form hk (by omega) (by omega) hq] at h; cases h
  · rw [tkSeal_err hk hx] at h
    simp only [Prod.mk.injEq] at h
    exact absurd h.2.2 hx
theorem tkSeal_less {b t r : List UInt8} (h : tkSeal b = (t, r, 0)) : r.length < b.length := by have := tkSeal_parts h; omega
theorem allF_enough : ∀ (m : Nat) (b : List UInt8) (k : Nat), b.length ≤ m → b.length < k → allF k b = allF (b.length + 1) b := by
  intro m
  induction m with
  | zero =>
    intro b k hm hk
    obtain rfl : b = [] := List.length_eq_zero_iff.1 (by omega)
    obtain ⟨k, rfl⟩ : ∃ j, k = j + 1 := ⟨k - 1, by omega⟩
    have e : (tkSeal []).2.2 ≠ 0 := by decide
    simp only [allF, List.length_nil, if_neg e]
  | succ m ih =>
    intro b k hm hk
    obtain ⟨k, rfl⟩ : ∃ j, k = j + 1 := ⟨k - 1, by omega⟩
    obtain ⟨t, r, x, h⟩ : ∃ t r x, tkSeal b = (t, r, x) := ⟨_, _, _, rfl⟩
    simp only [allF, h]
    by_cases hx : x = 0
    · subst hx
      have hl := tkSeal_less h
      rw [if_pos rfl, if_pos rfl, ih r k (by omega) (by omega), ih r b.length (by omega) hl]
    · rw [if_neg hx, if_neg hx]
theorem all_ok {b t r : List UInt8} (h : tkSeal b = (t, r, 0)) : allB b = t :: allB r ∧ restB b = restB r := by
  have hl := tkSeal_less h
  have e : allF (b.length + 1) b = (t :: (allF b.length r).1, (allF b.length r).2) := by simp only [allF, h, if_true]
  unfold allB restB
  rw [e, allF_enough r.length r b.length (Nat.le_refl _) hl]
  exact ⟨rfl, rfl⟩
theorem all_end {b t r : List UInt8} {x : Nat} (h : tkSeal b = (t, r, x)) (hx : x ≠ 0) : allB b = [] ∧ restB b = b := by
  have e : allF (b.length + 1) b = ([], b) := by simp only [allF, h]; rw [if_neg hx]
  unfold allB restB
  rw [e]; exact ⟨rfl, rfl⟩
/-- What the texts told take of the bytes. -/
def sizeB (l : List (List UInt8)) : Int := (l.map fun t => szOf t.length + t.length + 4).sum
theorem sizeB_snoc (l : List (List UInt8)) (t : List UInt8) : sizeB (l ++ [t]) = sizeB l + (szOf t.length + t.length + 4) := by simp [sizeB]
theorem sizeB_cons (l : List (List UInt8)) (t : List UInt8) : sizeB (t :: l) = szOf t.length + t.length + 4 + sizeB l := by simp [sizeB]
theorem sizeB_all : ∀ (m : Nat) (b : List UInt8), b.length ≤ m → sizeB (allB b) + (restB b).length = b.length := by
  intro m
  induction m with
  | zero =>
    intro b hm
    obtain rfl : b = [] := List.length_eq_zero_iff.1 (by omega)
    obtain ⟨h1, h2⟩ := all_end (b := []) (t := []) (r := []) (x := 2) (by decide) (by decide)
    rw [h1, h2]; rfl
  | succ m ih =>
    intro b hm
    obtain ⟨t, r, x, h⟩ : ∃ t r x, tkSeal b = (t, r, x) := ⟨_, _, _, rfl⟩
    by_cases hx : x = 0
    · subst hx
      have hl := tkSeal_less h
      have hp := tkSeal_parts h
      obtain ⟨h1, h2⟩ := all_ok h
      have := ih r (by omega)
      rw [h1, h2, sizeB_cons]; omega
    · obtain ⟨h1, h2⟩ := all_end h hx
      rw [h1, h2]; simp [sizeB]
theorem szOf_bd (v : Int) : 0 ≤ szOf v ∧ szOf v ≤ 8 := by unfold szOf; constructor <;> (repeat (split; omega)) <;> omega
theorem sizeB_nonneg (l : List (List UInt8)) : 0 ≤ sizeB l := by
  induction l with
  | nil => simp [sizeB]
  | cons t l ih => rw [sizeB_cons]; have := (szOf_bd t.length).1; omega
/-- Every text told is short. -/
theorem all_short : ∀ (m : Nat) (b : List UInt8), b.length ≤ m → ∀ t ∈ allB b, t.length ≤ 65536 := by
  intro m
  induction m with
  | zero =>
    intro b hm
    obtain rfl : b = [] := List.length_eq_zero_iff.1 (by omega)
    obtain ⟨h1, h2⟩ := all_end (b := []) (t := []) (r := []) (x := 2) (by decide) (by decide)
    rw [h1]; simp
  | succ m ih =>
    intro b hm
    obtain ⟨t, r, x, h⟩ : ∃ t r x, tkSeal b = (t, r, x) := ⟨_, _, _, rfl⟩
    by_cases hx : x = 0
    · subst hx
      have hl := tkSeal_less h
      obtain ⟨h1, h2⟩ := all_ok h
      rw [h1]
      intro u hu
      rcases List.mem_cons.1 hu with rfl | hu
      · exact (tkSeal_parts h).2.1
      · exact ih r (by omega) u hu
    · obtain ⟨h1, h2⟩ := all_end h hx
      rw [h1]; simp
/-- No more texts than bytes. -/
theorem len_le_size (l : List (List UInt8)) : (l.length : Int) ≤ sizeB l := by
  induction l with
  | nil => simp [sizeB]
  | cons t l ih => rw [sizeB_cons, List.length_cons]; have := (szOf_bd t.length).1; omega
theorem all_len_le (b : List UInt8) : (allB b).length ≤ b.length := by
  have h1 := len_le_size (allB b)
  have h2 := sizeB_all b.length b (Nat.le_refl _)
  omega
theorem sizeB_le (b : List UInt8) : sizeB (allB b) ≤ b.length := by have h2 := sizeB_all b.length b (Nat.le_refl _); omega
end Go.Proofs.YtjbhnkigbobhiaaDoor
