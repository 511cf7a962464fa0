/- Layer 2 in plain words: what was sealed is taken; no beginning of it, and nothing of which one byte is another one. -/
import Derived.Test.YtjbhnkigbobhiaaDoorRb
import Derived.Test.YtjbhnkigbobhiaaDoorNt
import Derived.Test.YtjbhnkigbobhiaaDoorPte
import Derived.Test.YtjbhnkigbobhiaaDoorSf
namespace Go.Proofs.YtjbhnkigbobhiaaDoor
open Go.RowKit

theorem toNat_of (n : Nat) : (UInt8.ofNat n).toNat = n % 256 := by simp
theorem shape_mk (n : Nat) {c : UInt8} {bs : List UInt8} (h1 : numB n = c :: bs) (h2 : tkLen c = bs.length + 1) (h3 : tkVal (c.toNat % 64) bs = n) (h4 : szOf n = ((bs.length + 1 : Nat) : Int)) :
    ∃ c bs, numB n = c :: bs ∧ tkLen c = bs.length + 1 ∧ tkVal (c.toNat % 64) bs = n ∧ szOf n = ((bs.length + 1 : Nat) : Int) := ⟨c, bs, h1, h2, h3, h4⟩
theorem len4_of (n : Nat) (h : n < 1073741824) : tkLen (UInt8.ofNat ((n + 2147483648) / 16777216)) = 4 := by
  unfold tkLen; rw [toNat_of, show (n + 2147483648) / 16777216 % 256 / 64 = 2 by omega]
theorem val4_of (n : Nat) (h : n < 1073741824) : ((((n + 2147483648) / 16777216 % 256 % 64) * 256 + (n + 2147483648) / 65536 % 256) * 256 + (n + 2147483648) / 256 % 256) * 256 + (n + 2147483648) % 256 = n := by omega
theorem bytes4_of (n : Nat) (h : n < 1073741824) (b : 16384 ≤ n) : numB n = UInt8.ofNat ((n + 2147483648) / 16777216) :: [UInt8.ofNat ((n + 2147483648) / 65536), UInt8.ofNat ((n + 2147483648) / 256), UInt8.ofNat (n + 2147483648)] := by
  rw [numB_4 (by omega) h]
  simp only [beB, List.range_succ, List.range_zero, List.nil_append, List.cons_append, List.map_cons, List.map_nil, Nat.reduceSub, Nat.reducePow, Nat.div_one]
theorem tkVal3 (a : Nat) (x y z : UInt8) : tkVal a [x, y, z] = ((a * 256 + x.toNat) * 256 + y.toNat) * 256 + z.toNat := rfl
theorem tkVal1 (a : Nat) (x : UInt8) : tkVal a [x] = a * 256 + x.toNat := rfl
theorem len3 (x y z : UInt8) : [x, y, z].length + 1 = 4 := rfl
theorem len1 (x : UInt8) : [x].length + 1 = 2 := rfl
/-- A number's bytes: the first one tells how many they are, and all tell the number. -/
theorem numB_shape (n : Nat) (h : n < 1073741824) : ∃ c bs, numB n = c :: bs ∧ tkLen c = bs.length + 1 ∧ tkVal (c.toNat % 64) bs = n ∧ szOf n = ((bs.length + 1 : Nat) : Int) := by
  by_cases a : n < 64
  · refine shape_mk n (c := UInt8.ofNat n) (bs := []) ?_ ?_ ?_ ?_
    · rw [numB_1 a]; simp [beB]
    · unfold tkLen; rw [toNat_of, show n % 256 / 64 = 0 by omega]; rfl
    · simp only [tkVal, List.foldl_nil, toNat_of]; omega
    · rw [szOf1 (by omega)]; rfl
  by_cases b : n < 16384
  · refine shape_mk n (c := UInt8.ofNat ((n + 16384) / 256)) (bs := [UInt8.ofNat (n + 16384)]) ?_ ?_ ?_ ?_
    · rw [numB_2 (by omega) b]
      simp only [beB, List.range_succ, List.range_zero, List.nil_append, List.cons_append, List.map_cons, List.map_nil, Nat.reduceSub, Nat.reducePow, Nat.div_one]
    · unfold tkLen; rw [toNat_of, show (n + 16384) / 256 % 256 / 64 = 1 by omega, len1]
    · rw [tkVal1, toNat_of, toNat_of]; omega
    · rw [szOf2 (by omega) (by omega), len1]; rfl
  · refine shape_mk n (bytes4_of n h (by omega)) ?_ ?_ ?_
    · rw [len4_of n h, len3]
    · rw [tkVal3, toNat_of, toNat_of, toNat_of, toNat_of]; exact val4_of n h
    · rw [szOf4 (by omega) (by omega), len3]; rfl
/-- What was laid is taken, whatever stands behind it. -/
theorem tkNum_numB (n : Nat) (h : n < 1073741824) (r : List UInt8) : tkNum (numB n ++ r) = (n, r, 0) := by
  obtain ⟨c, bs, e, hl, hv, hz⟩ := numB_shape n h
  rw [e, List.cons_append, tkNum_ok (n := bs.length + 1) hl rfl (by rw [hv, hz]), hv]
/-- No beginning of a number's bytes is a number. -/
theorem tkNum_cut (n : Nat) (h : n < 1073741824) (k : Nat) (hk : k < (numB n).length) : tkNum ((numB n).take k) = (0, [], 2) := by
  obtain ⟨c, bs, e, hl, -, -⟩ := numB_shape n h
  rw [e] at hk ⊢
  cases k with
  | zero => rfl
  | succ k =>
    rw [List.take_succ_cons]
    refine tkNum_short (n := bs.length + 1) hl ?_
    simp at hk ⊢; omega
theorem numB_pos4 (n : Nat) (h : n < 1073741824) : 1 ≤ (numB n).length := by
  obtain ⟨c, bs, e, -, -, -⟩ := numB_shape n h
  rw [e]; simp
theorem len_put (l : List UInt8) : (putB l).length = (numB l.length).length + l.length + 4 := by unfold putB; simp [len_four]; omega
/-- What was sealed is taken, whatever stands behind it. -/
theorem tkSeal_putB (l more : List UInt8) (h : l.length ≤ 65536) : tkSeal (putB l ++ more) = (l, more, 0) := by
  have e : putB l ++ more = numB l.length ++ (l ++ (fourB (sumOf (numB l.length ++ l)) ++ more)) := by unfold putB; simp [List.append_assoc]
  have hk := tkNum_numB l.length (by omega) (l ++ (fourB (sumOf (numB l.length ++ l)) ++ more))
  rw [← e] at hk
  rw [tkSeal_ok hk h (by simp [len_four])]
  · rw [List.take_left, ← List.drop_drop, List.drop_left]; rfl
  · rw [e]
    have : (numB l.length ++ (l ++ (fourB (sumOf (numB l.length ++ l)) ++ more))).length - (l ++ (fourB (sumOf (numB l.length ++ l)) ++ more)).length + l.length = (numB l.length ++ l).length := by simp
    rw [this, ← List.append_assoc (numB l.length), List.take_left, List.drop_left]
    rw [show 4 = (fourB (sumOf (numB l.length ++ l))).length from rfl, List.take_left]
/-- No beginning of a sealed text is one. -/
theorem tkSeal_cut (l : List UInt8) (h : l.length ≤ 65536) (k : Nat) (hk : k < (putB l).length) : tkSeal ((putB l).take k) = ([], [], 2) := by
  by_cases a : k < (numB l.length).length
  · have : (putB l).take k = (numB l.length).take k := by unfold putB; rw [List.append_assoc, List.take_append_of_le_length (by omega)]
    rw [this]; exact tkSeal_err (tkNum_cut l.length (by omega) k a) (by decide)
  · have e : (putB l).take k = numB l.length ++ (l ++ fourB (sumOf (numB l.length ++ l))).take (k - (numB l.length).length) := by
      unfold putB; rw [List.append_assoc, List.take_append, List.take_of_length_le (by omega)]
    rw [e]
    refine tkSeal_more (tkNum_numB l.length (by omega) _) h ?_
    rw [len_put] at hk
    simp [len_four]; omega
theorem adl_fst (l : List UInt8) : ∀ p : Nat × Nat, p.1 < 65521 → (l.foldl adl p).1 = (p.1 + (l.map UInt8.toNat).sum) % 65521 := by
  induction l with
  | nil => intro p hp; simp; omega
  | cons c l ih => intro p hp; rw [List.foldl_cons, ih _ (by unfold adl; exact Nat.mod_lt _ (by decide))]; unfold adl; simp; omega
theorem adlOf_fst (l : List UInt8) : (adlOf l).1 = (1 + (l.map UInt8.toNat).sum) % 65521 := adl_fst l (1, 0) (by decide)
theorem sum_set (l : List UInt8) : ∀ (i : Nat) (hi : i < l.length) (x : UInt8), ((l.set i x).map UInt8.toNat).sum + l[i].toNat = (l.map UInt8.toNat).sum + x.toNat := by
  induction l with
  | nil => intro i hi; simp at hi
  | cons c l ih =>
    intro i hi x
    cases i with
    | zero => simp; omega
    | succ i => have := ih i (by simpa using hi) x; simp at this ⊢; omega
theorem sumOf_set (p l : List UInt8) (i : Nat) (hi : i < l.length) (x : UInt8) (hx : x ≠ l[i]) : sumOf (p ++ l.set i x) ≠ sumOf (p ++ l) := by
  intro h
  have h1 : (adlOf (p ++ l.set i x)).1 = (adlOf (p ++ l)).1 := by
    have a := adlOf_lt (p ++ l.set i x); have b := adlOf_lt (p ++ l); unfold sumOf at h; omega
  rw [adlOf_fst, adlOf_fst] at h1
  simp only [List.map_append, List.sum_append] at h1
  have h2 := sum_set l i hi x
  have h3 : x.toNat ≠ l[i].toNat := fun e => hx (UInt8.toNat_inj.1 e)
  have := x.toNat_lt; have := (l[i]).toNat_lt
  omega
theorem fourB_inj {a b : Nat} (ha : a < 4294967296) (hb : b < 4294967296) (h : fourB a = fourB b) : a = b := by
  unfold fourB at h
  simp only [List.cons.injEq, and_true] at h
  obtain ⟨h1, h2, h3, h4⟩ := h
  have g := fun {x y : Nat} (e : UInt8.ofNat x = UInt8.ofNat y) => (by have := congrArg UInt8.toNat e; rwa [toNat_of, toNat_of] at this : x % 256 = y % 256)
  have := g h1; have := g h2; have := g h3; have := g h4
  omega
theorem sumOf_ltN (l : List UInt8) : sumOf l < 4294967296 := by have := sumOf_lt l; omega
/-- A sealed text of which one byte of the text or of the sum is another one is refused. -/
theorem tkSeal_turned (l : List UInt8) (h : l.length ≤ 65536) (i : Nat) (hi : i < l.length + 4) (x : UInt8) (hx : (putB l)[(numB l.length).length + i]? ≠ some x) :
    tkSeal ((putB l).set ((numB l.length).length + i) x) = ([], [], 3) := by
  have hlen : (numB l.length).length + i < (putB l).length := by rw [len_put]; omega
  by_cases a : i < l.length
  · have e : (putB l).set ((numB l.length).length + i) x = numB l.length ++ (l.set i x ++ fourB (sumOf (numB l.length ++ l))) := by
      unfold putB
      rw [List.append_assoc, List.set_append_right _ _ (by omega), Nat.add_sub_cancel_left, List.set_append_left _ _ a]
    have hx2 : x ≠ l[i] := by
      intro e; apply hx; rw [e]; unfold putB
      rw [List.getElem?_append_left (by simp; omega), List.getElem?_append_right (by omega), Nat.add_sub_cancel_left, List.getElem?_eq_getElem a]
    rw [e]
    refine tkSeal_form (tkNum_numB l.length (by omega) _) h (by simp [len_four]) ?_
    have hh : (numB l.length ++ (l.set i x ++ fourB (sumOf (numB l.length ++ l)))).length - (l.set i x ++ fourB (sumOf (numB l.length ++ l))).length + l.length = (numB l.length ++ l.set i x).length := by simp
    rw [hh, ← List.append_assoc (numB l.length), List.take_left]
    have hl : l.length = (l.set i x).length := by simp
    rw [show List.drop l.length (l.set i x ++ fourB (sumOf (numB l.length ++ l))) = fourB (sumOf (numB l.length ++ l)) by rw [List.drop_append_of_le_length (by simp), List.drop_eq_nil_of_le (by simp), List.nil_append]]
    rw [List.take_of_length_le (by simp [len_four])]
    intro e2
    exact sumOf_set _ _ _ a x hx2 (fourB_inj (sumOf_ltN _) (sumOf_ltN _) e2)
  · have e : (putB l).set ((numB l.length).length + i) x = numB l.length ++ (l ++ (fourB (sumOf (numB l.length ++ l))).set (i - l.length) x) := by
      unfold putB
      rw [List.append_assoc, List.set_append_right _ _ (by omega), Nat.add_sub_cancel_left, List.set_append_right _ _ (by omega)]
    have hx2 : (fourB (sumOf (numB l.length ++ l)))[i - l.length]? ≠ some x := by
      intro e; apply hx; rw [← e]; unfold putB
      rw [List.getElem?_append_right (by simp; omega), List.length_append, show (numB l.length).length + i - ((numB l.length).length + l.length) = i - l.length by omega]
    rw [e]
    refine tkSeal_form (tkNum_numB l.length (by omega) _) h (by simp [len_four]) ?_
    have hh : (numB l.length ++ (l ++ (fourB (sumOf (numB l.length ++ l))).set (i - l.length) x)).length - (l ++ (fourB (sumOf (numB l.length ++ l))).set (i - l.length) x).length + l.length = (numB l.length ++ l).length := by simp
    rw [hh, ← List.append_assoc (numB l.length), List.take_left, List.drop_left, List.take_of_length_le (by simp [len_four])]
    intro e2
    apply hx2
    rw [e2, List.getElem?_set_self (by rw [len_four]; omega)]
end Go.Proofs.YtjbhnkigbobhiaaDoor
/- Layer 2 in plain words: the sealed texts one behind the other, and what stands behind them. -/
namespace Go.Proofs.YtjbhnkigbobhiaaDoor
open Go.RowKit

/-- The texts, and what stands behind them; k: how many at most. -/
def allF : Nat → List UInt8 → List (List UInt8) × List UInt8
  | 0, b => ([], b)
  | k + 1, b => if (tkSeal b).2.2 = 0 then ((tkSeal b).1 :: (allF k (tkSeal b).2.1).1, (allF k (tkSeal b).2.1).2) else ([], b)
def allB (b : List UInt8) : List (List UInt8) := (allF (b.length + 1) b).1
def restB (b : List UInt8) : List UInt8 := (allF (b.length + 1) b).2
theorem tkNum_parts {b r : List UInt8} {n : Nat} (h : tkNum b = (n, r, 0)) : (b.length : Int) = szOf n + r.length ∧ 1 ≤ szOf n := by
  unfold tkNum at h
  split at h
  · cases h
  · next c q =>
    split at h
    · cases h
    · next h1 =>
      split at h
      · next h2 =>
        have hp : 1 ≤ tkLen c := by unfold tkLen; exact Nat.one_le_two_pow
        simp only [Prod.mk.injEq, and_true] at h
        obtain ⟨h3, h4⟩ := h
        rw [← h3, ← h4, h2]
        simp only [List.length_cons, List.length_drop]
        omega
      · cases h
/-- A sealed text's bytes: its length's, its own, four, and what stands behind it. -/
theorem tkSeal_parts {b t r : List UInt8} (h : tkSeal b = (t, r, 0)) : (b.length : Int) = szOf t.length + t.length + 4 + r.length ∧ t.length ≤ 65536 ∧ 1 ≤ szOf t.length := by
  obtain ⟨n, q, x, hk⟩ : ∃ n q x, tkNum b = (n, q, x) := ⟨_, _, _, rfl⟩
  by_cases hx : x = 0
  · subst hx
    by_cases hn : 65536 < n
    · rw [tkSeal_big hk hn] at h; cases h
    by_cases hr : q.length < n + 4
    · rw [tkSeal_more hk (by omega) hr] at h; cases h
    by_cases hq : fourB (sumOf (b.take (b.length - q.length + n))) = (q.drop n).take 4
    · rw [tkSeal_ok hk (by omega) (by omega) hq] at h
      simp only [Prod.mk.injEq, and_true] at h
      obtain ⟨h1, h2⟩ := h
      obtain ⟨p1, p2⟩ := tkNum_parts hk
      have e1 : t.length = n := by rw [← h1, List.length_take]; omega
      have e2 : r.length = q.length - (n + 4) := by rw [← h2, List.length_drop]
      rw [e1]
      refine ⟨?_, by omega, p2⟩
      omega
    · rw [tkSeal_form hk (by omega) (by omega) hq] at h; cases h
  · rw [tkSeal_err hk hx] at h
    simp only [Prod.mk.injEq] at h
    exact absurd h.2.2 hx
theorem tkSeal_less {b t r : List UInt8} (h : tkSeal b = (t, r, 0)) : r.length < b.length := by have := tkSeal_parts h; omega
theorem allF_enough : ∀ (m : Nat) (b : List UInt8) (k : Nat), b.length ≤ m → b.length < k → allF k b = allF (b.length + 1) b := by
  intro m
  induction m with
  | zero =>
    intro b k hm hk
    obtain rfl : b = [] := List.length_eq_zero_iff.1 (by omega)
    obtain ⟨k, rfl⟩ : ∃ j, k = j + 1 := ⟨k - 1, by omega⟩
    have e : (tkSeal []).2.2 ≠ 0 := by decide
    simp only [allF, List.length_nil, if_neg e]
  | succ m ih =>
    intro b k hm hk
    obtain ⟨k, rfl⟩ : ∃ j, k = j + 1 := ⟨k - 1, by omega⟩
    obtain ⟨t, r, x, h⟩ : ∃ t r x, tkSeal b = (t, r, x) := ⟨_, _, _, rfl⟩
    simp only [allF, h]
    by_cases hx : x = 0
    · subst hx
      have hl := tkSeal_less h
      rw [if_pos rfl, if_pos rfl, ih r k (by omega) (by omega), ih r b.length (by omega) hl]
    · rw [if_neg hx, if_neg hx]
theorem all_ok {b t r : List UInt8} (h : tkSeal b = (t, r, 0)) : allB b = t :: allB r ∧ restB b = restB r := by
  have hl := tkSeal_less h
  have e : allF (b.length + 1) b = (t :: (allF b.length r).1, (allF b.length r).2) := by simp only [allF, h, if_true]
  unfold allB restB
  rw [e, allF_enough r.length r b.length (Nat.le_refl _) hl]
  exact ⟨rfl, rfl⟩
theorem all_end {b t r : List UInt8} {x : Nat} (h : tkSeal b = (t, r, x)) (hx : x ≠ 0) : allB b = [] ∧ restB b = b := by
  have e : allF (b.length + 1) b = ([], b) := by simp only [allF, h]; rw [if_neg hx]
  unfold allB restB
  rw [e]; exact ⟨rfl, rfl⟩
/-- What the texts told take of the bytes. -/
def sizeB (l : List (List UInt8)) : Int := (l.map fun t => szOf t.length + t.length + 4).sum
theorem sizeB_snoc (l : List (List UInt8)) (t : List UInt8) : sizeB (l ++ [t]) = sizeB l + (szOf t.length + t.length + 4) := by simp [sizeB]
theorem sizeB_cons (l : List (List UInt8)) (t : List UInt8) : sizeB (t :: l) = szOf t.length + t.length + 4 + sizeB l := by simp [sizeB]
theorem sizeB_all : ∀ (m : Nat) (b : List UInt8), b.length ≤ m → sizeB (allB b) + (restB b).length = b.length := by
  intro m
  induction m with
  | zero =>
    intro b hm
    obtain rfl : b = [] := List.length_eq_zero_iff.1 (by omega)
    obtain ⟨h1, h2⟩ := all_end (b := []) (t := []) (r := []) (x := 2) (by decide) (by decide)
    rw [h1, h2]; rfl
  | succ m ih =>
    intro b hm
    obtain ⟨t, r, x, h⟩ : ∃ t r x, tkSeal b = (t, r, x) := ⟨_, _, _, rfl⟩
    by_cases hx : x = 0
    · subst hx
      have hl := tkSeal_less h
      have hp := tkSeal_parts h
      obtain ⟨h1, h2⟩ := all_ok h
      have := ih r (by omega)
      rw [h1, h2, sizeB_cons]; omega
    · obtain ⟨h1, h2⟩ := all_end h hx
      rw [h1, h2]; simp [sizeB]
theorem szOf_bd (v : Int) : 0 ≤ szOf v ∧ szOf v ≤ 8 := by unfold szOf; constructor <;> (repeat (split; omega)) <;> omega
theorem sizeB_nonneg (l : List (List UInt8)) : 0 ≤ sizeB l := by
  induction l with
  | nil => simp [sizeB]
  | cons t l ih => rw [sizeB_cons]; have := (szOf_bd t.length).1; omega
/-- Every text told is short. -/
theorem all_short : ∀ (m : Nat) (b : List UInt8), b.length ≤ m → ∀ t ∈ allB b, t.length ≤ 65536 := by
  intro m
  induction m with
  | zero =>
    intro b hm
    obtain rfl : b = [] := List.length_eq_zero_iff.1 (by omega)
    obtain ⟨h1, h2⟩ := all_end (b := []) (t := []) (r := []) (x := 2) (by decide) (by decide)
    rw [h1]; simp
  | succ m ih =>
    intro b hm
    obtain ⟨t, r, x, h⟩ : ∃ t r x, tkSeal b = (t, r, x) := ⟨_, _, _, rfl⟩
    by_cases hx : x = 0
    · subst hx
      have hl := tkSeal_less h
      obtain ⟨h1, h2⟩ := all_ok h
      rw [h1]
      intro u hu
      rcases List.mem_cons.1 hu with rfl | hu
      · exact (tkSeal_parts h).2.1
      · exact ih r (by omega) u hu
    · obtain ⟨h1, h2⟩ := all_end h hx
      rw [h1]; simp
/-- No more texts than bytes. -/
theorem len_le_size (l : List (List UInt8)) : (l.length : Int) ≤ sizeB l := by
  induction l with
  | nil => simp [sizeB]
  | cons t l ih => rw [sizeB_cons, List.length_cons]; have := (szOf_bd t.length).1; omega
theorem all_len_le (b : List UInt8) : (allB b).length ≤ b.length := by
  have h1 := len_le_size (allB b)
  have h2 := sizeB_all b.length b (Nat.le_refl _)
  omega
theorem sizeB_le (b : List UInt8) : sizeB (allB b) ≤ b.length := by have h2 := sizeB_all b.length b (Nat.le_refl _); omega
end Go.Proofs.YtjbhnkigbobhiaaDoor
/- Layer 4 in plain words: the note of a sealed text. -/
namespace Go.Proofs.YtjbhnkigbobhiaaDoor
open Go.RowKit

/-- The note of a sealed text, if it is one. -/
noncomputable def oneL (s : List UInt8) : Option Nt :=
  match s with
  | [] => none
  | c :: r => match tkNums 3 r with
    | ([i, t, v], d, 0) => if okB ⟨c.toNat, i, t, v, ⟨d.toArray⟩⟩ = true then some ⟨c.toNat, i, t, v, ⟨d.toArray⟩⟩ else none
    | _ => none
theorem each_less : ∀ (n : Nat) (s : List UInt8), (tkEach n s).2.1.length ≤ s.length
  | 0, _ => Nat.le_refl _
  | n + 1, s => by
    have h1 := tk_less s
    have h2 := each_less n (tkNum s).2.1
    unfold tkEach
    split
    · simp
    · split
      · simp
      · simp only; omega
theorem nums_less (M : Int) (s : List UInt8) : (tkNums M s).2.1.length ≤ s.length := by
  have h1 := tk_less s
  have h2 := each_less (tkNum s).1 (tkNum s).2.1
  unfold tkNums
  split
  · simp
  · split
    · simp
    · omega
/-- What is answered: the note, true; or any note, false. -/
def OneP (w : World) (s : List UInt8) (e : Ending) (w' : World) : Prop :=
  Below w.heap.size w w' ∧ ((∃ n : Nt, oneL s = some n ∧ e = .returned (.tuple #[n.val, .bool true])) ∨ (oneL s = none ∧ ∃ n : Nt, e = .returned (.tuple #[n.val, .bool false])))
end Go.Proofs.YtjbhnkigbobhiaaDoor
/- Layer 4 in plain words: the notes of bytes. -/
namespace Go.Proofs.YtjbhnkigbobhiaaDoor
open Go.RowKit

/-- The first note of bytes and what stands behind it, if they begin with one. -/
noncomputable def noteAt (b : List UInt8) : Option (Nt × List UInt8) :=
  match tkSeal b with
  | (t, r, 0) => (oneL t).map fun n => (n, r)
  | _ => none
noncomputable def rdF : Nat → List UInt8 → List Nt × List UInt8
  | 0, b => ([], b)
  | f + 1, b => match noteAt b with
    | some (n, r) => (n :: (rdF f r).1, (rdF f r).2)
    | none => ([], b)
/-- The notes that follow one another from the beginning, and what stands behind them. -/
noncomputable def rdB (b : List UInt8) : List Nt × List UInt8 := rdF b.length b
theorem noteAt_less {b : List UInt8} {n : Nt} {r : List UInt8} (h : noteAt b = some (n, r)) : r.length < b.length := by
  unfold noteAt at h
  split at h
  · rename_i t r' hk
    rw [Option.map_eq_some_iff] at h
    obtain ⟨m, _, e⟩ := h
    cases e
    exact tkSeal_less hk
  · cases h
theorem rdF_more : ∀ (f g : Nat) (b : List UInt8), b.length ≤ f → b.length ≤ g → rdF f b = rdF g b
  | 0, 0, _, _, _ => rfl
  | 0, g + 1, b, h, _ => by
    have hb : b = [] := List.length_eq_zero_iff.1 (by omega)
    subst hb
    unfold rdF
    split
    · rename_i n r hn; exact absurd (noteAt_less hn) (by simp)
    · rfl
  | f + 1, 0, b, _, h => by
    have hb : b = [] := List.length_eq_zero_iff.1 (by omega)
    subst hb
    unfold rdF
    split
    · rename_i n r hn; exact absurd (noteAt_less hn) (by simp)
    · rfl
  | f + 1, g + 1, b, hf, hg => by
    unfold rdF
    split
    · rename_i n r hn
      have := noteAt_less hn
      rw [rdF_more f g r (by omega) (by omega)]
    · rfl
theorem rd_some {b : List UInt8} {n : Nt} {r : List UInt8} (h : noteAt b = some (n, r)) : rdB b = (n :: (rdB r).1, (rdB r).2) := by
  have hl := noteAt_less h
  unfold rdB
  rw [rdF_more b.length (b.length + 1) b (Nat.le_refl _) (by omega)]
  conv => lhs; unfold rdF
  rw [h]
  simp only
  rw [rdF_more b.length r.length r (by omega) (Nat.le_refl _)]
theorem rd_none {b : List UInt8} (h : noteAt b = none) : rdB b = ([], b) := by
  unfold rdB
  rw [rdF_more b.length (b.length + 1) b (Nat.le_refl _) (by omega)]
  conv => lhs; unfold rdF
  rw [h]
theorem rd_less (b : List UInt8) : ∀ f, (rdF f b).1.length + (rdF f b).2.length ≤ b.length := by
  intro f
  induction f generalizing b with
  | zero => simp [rdF]
  | succ f ih =>
    unfold rdF
    split
    · rename_i n r hn
      have := noteAt_less hn
      have := ih r
      simp only [List.length_cons]; omega
    · simp
/-- Read's answer. -/
def ReadP (w : World) (b : List UInt8) (e : Ending) (w' : World) : Prop :=
  ∃ v, e = .returned (.tuple #[v, .int .i64 ((b.length : Int) - (rdB b).2.length)]) ∧ w'.ownsRow w.heap.size 24 5 v (rdB b).1.length (ntsCells (rdB b).1) ∧ Below w.heap.size w w'
def szV : Value → Nat | .string s => s.size | _ => 0
end Go.Proofs.YtjbhnkigbobhiaaDoor
