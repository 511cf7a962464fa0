/- Layer 2 in plain words: what was sealed is taken; no beginning of it, and nothing of which one byte is another one. -/
import Derived.Test.YtjbhnkigbobhiaaDoorTs
namespace Go.Proofs.YtjbhnkigbobhiaaDoor
open Go.RowKit

theorem toNat_of (n : Nat) : (UInt8.ofNat n).toNat = n % 256 := by simp
theorem shape_mk (n : Nat) {c : UInt8} {bs : List UInt8} (h1 : numB n = c :: bs) (h2 : tkLen c = bs.length + 1) (h3 : tkVal (c.toNat % 64) bs = n) (h4 : szOf n = ((bs.length + 1 : Nat) : Int)) :
    ∃ c bs, numB n = c :: bs ∧ tkLen c = bs.length + 1 ∧ tkVal (c.toNat % 64) bs = n ∧ szOf n = ((bs.length + 1 : Nat) : Int) := ⟨c, bs, h1, h2, h3, h4⟩
theorem len4_of (n : Nat) (h : n < 1073741824) : tkLen (UInt8.ofNat ((n + 2147483648) / 16777216)) = 4 := by
  unfold tkLen; rw [toNat_of, show (n + 2147483648) / 16777216 % 256 / 64 = 2 by omega]
theorem val4_of (n : Nat) (h : n < 1073741824) : ((((n + 2147483648) / 16777216 % 256 % 64) * 256 + (n + 2147483648) / 65536 % 256) * 256 + (n + 2147483648) / 256 % 256) * 256 + (n + 2147483648) % 256 = n := by omega
theorem bytes4_of (n : Nat) (h : n < 1073741824) (b : 16384 ≤ n) : numB n = UInt8.ofNat ((n + 2147483648) / 16777216) :: [UInt8.ofNat ((n + 2147483648) / 65536), UInt8.ofNat ((n + 2147483648) / 256), UInt8.ofNat (n + 2147483648)] := by
  rw [numB_4 (by omega) h]
  simp only [beB, List.range_succ, List.range_zero, List.nil_append, List.cons_append, List.map_cons, List.map_nil, Nat.reduceSub, Nat.reducePow, Nat.div_one]
theorem tkVal3 (a : Nat) (x y z : UInt8) : tkVal a [x, y, z] = ((a * 256 + x.toNat) * 256 + y.toNat) * 256 + z.toNat := rfl
theorem tkVal1 (a : Nat) (x : UInt8) : tkVal a [x] = a * 256 + x.toNat := rfl
theorem len3 (x y z : UInt8) : [x, y, z].length + 1 = 4 := rfl
theorem len1 (x : UInt8) : [x].length + 1 = 2 := rfl
/-- A number's bytes: the first one tells how many they are, and all tell the number. -/
theorem numB_shape (n : Nat) (h : n < 1073741824) : ∃ c bs, numB n = c :: bs ∧ tkLen c = bs.length + 1 ∧ tkVal (c.toNat % 64) bs = n ∧ szOf n = ((bs.length + 1 : Nat) : Int) := by
  by_cases a : n < 64
  · refine shape_mk n (c := UInt8.ofNat n) (bs := []) ?_ ?_ ?_ ?_
    · rw [numB_1 a]; simp [beB]
    · unfold tkLen; rw [toNat_of, show n % 256 / 64 = 0 by omega]; rfl
    · simp only [tkVal, List.foldl_nil, toNat_of]; omega
    · rw [szOf1 (by omega)]; rfl
  by_cases b : n < 16384
  · refine shape_mk n (c := UInt8.ofNat ((n + 16384) / 256)) (bs := [UInt8.ofNat (n + 16384)]) ?_ ?_ ?_ ?_
    · rw [numB_2 (by omega) b]
      simp only [beB, List.range_succ, List.range_zero, List.nil_append, List.cons_append, List.map_cons, List.map_nil, Nat.reduceSub, Nat.reducePow, Nat.div_one]
    · unfold tkLen; rw [toNat_of, show (n + 16384) / 256 % 256 / 64 = 1 by omega, len1]
    · rw [tkVal1, toNat_of, toNat_of]; omega
    · rw [szOf2 (by omega) (by omega), len1]; rfl
  · refine shape_mk n (bytes4_of n h (by omega)) ?_ ?_ ?_
    · rw [len4_of n h, len3]
    · rw [tkVal3, toNat_of, toNat_of, toNat_of, toNat_of]; exact val4_of n h
    · rw [szOf4 (by omega) (by omega), len3]; rfl
/-- What was laid is taken, whatever stands behind it. -/
theorem tkNum_numB (n : Nat) (h : n < 1073741824) (r : List UInt8) : tkNum (numB n ++ r) = (n, r, 0) := by
  obtain ⟨c, bs, e, hl, hv, hz⟩ := numB_shape n h
  rw [e, List.cons_append, tkNum_ok (n := bs.length + 1) hl rfl (by rw [hv, hz]), hv]
/-- No beginning of a number's bytes is a number. -/
theorem tkNum_cut (n : Nat) (h : n < 1073741824) (k : Nat) (hk : k < (numB n).length) : tkNum ((numB n).take k) = (0, [], 2) := by
  obtain ⟨c, bs, e, hl, -, -⟩ := numB_shape n h
  rw [e] at hk ⊢
  cases k with
  | zero => rfl
  | succ k =>
    rw [List.take_succ_cons]
    refine tkNum_short (n := bs.length + 1) hl ?_
    simp at hk ⊢; omega
theorem numB_pos4 (n : Nat) (h : n < 1073741824) : 1 ≤ (numB n).length := by
  obtain ⟨c, bs, e, -, -, -⟩ := numB_shape n h
  rw [e]; simp
theorem len_put (l : List UInt8) : (putB l).length = (numB l.length).length + l.length + 4 := by unfold putB; simp [len_four]; omega
/-- What was sealed is taken, whatever stands behind it. -/
theorem tkSeal_putB (l more : List UInt8) (h : l.length ≤ 65536) : tkSeal (putB l ++ more) = (l, more, 0) := by
  have e : putB l ++ more = numB l.length ++ (l ++ (fourB (sumOf (numB l.length ++ l)) ++ more)) := by unfold putB; simp [List.append_assoc]
  have hk := tkNum_numB l.length (by omega) (l ++ (fourB (sumOf (numB l.length ++ l)) ++ more))
  rw [← e] at hk
  rw [tkSeal_ok hk h (by simp [len_four])]
  · rw [List.take_left, ← List.drop_drop, List.drop_left]; rfl
  · rw [e]
    have : (numB l.length ++ (l ++ (fourB (sumOf (numB l.length ++ l)) ++ more))).length - (l ++ (fourB (sumOf (numB l.length ++ l)) ++ more)).length + l.length = (numB l.length ++ l).length := by simp
    rw [this, ← List.append_assoc (numB l.length), List.take_left, List.drop_left]
    rw [show 4 = (fourB (sumOf (numB l.length ++ l))).length from rfl, List.take_left]
/-- No beginning of a sealed text is one. -/
theorem tkSeal_cut (l : List UInt8) (h : l.length ≤ 65536) (k : Nat) (hk : k < (putB l).length) : tkSeal ((putB l).take k) = ([], [], 2) := by
  by_cases a : k < (numB l.length).length
  · have : (putB l).take k = (numB l.length).take k := by unfold putB; rw [List.append_assoc, List.take_append_of_le_length (by omega)]
    rw [this]; exact tkSeal_err (tkNum_cut l.length (by omega) k a) (by decide)
  · have e : (putB l).take k = numB l.length ++ (l ++ fourB (sumOf (numB l.length ++ l))).take (k - (numB l.length).length) := by
      unfold putB; rw [List.append_assoc, List.take_append, List.take_of_length_le (by omega)]
    rw [e]
    refine tkSeal_more (tkNum_numB l.length (by omega) _) h ?_
    rw [len_put] at hk
    simp [len_four]; omega
theorem adl_fst (l : List UInt8) : ∀ p : Nat × Nat, p.1 < 65521 → (l.foldl adl p).1 = (p.1 + (l.map UInt8.toNat).sum) % 65521 := by
  induction l with
  | nil => intro p hp; simp; omega
  | cons c l ih => intro p hp; rw [List.foldl_cons, ih _ (by unfold adl; exact Nat.mod_lt _ (by decide))]; unfold adl; simp; omega
theorem adlOf_fst (l : List UInt8) : (adlOf l).1 = (1 + (l.map UInt8.toNat).sum) % 65521 := adl_fst l (1, 0) (by decide)
theorem sum_set (l : List UInt8) : ∀ (i : Nat) (hi : i < l.length) (x : UInt8), ((l.set i x).map UInt8.toNat).sum + l[i].toNat = (l.map UInt8.toNat).sum + x.toNat := by
  induction l with
  | nil => intro i hi; simp at hi
  | cons c l ih =>
    intro i hi x
    cases i with
    | zero => simp; omega
    | succ i => have := ih i (by simpa using hi) x; simp at this ⊢; omega
theorem sumOf_set (p l : List UInt8) (i : Nat) (hi : i < l.length) (x : UInt8) (hx : x ≠ l[i]) : sumOf (p ++ l.set i x) ≠ sumOf (p ++ l) := by
  intro h
  have h1 : (adlOf (p ++ l.set i x)).1 = (adlOf (p ++ l)).1 := by
    have a := adlOf_lt (p ++ l.set i x); have b := adlOf_lt (p ++ l); unfold sumOf at h; omega
  rw [adlOf_fst, adlOf_fst] at h1
  simp only [List.map_append, List.sum_append] at h1
  have h2 := sum_set l i hi x
  have h3 : x.toNat ≠ l[i].toNat := fun e => hx (UInt8.toNat_inj.1 e)
  have := x.toNat_lt; have := (l[i]).toNat_lt
  omega
theorem fourB_inj {a b : Nat} (ha : a < 4294967296) (hb : b < 4294967296) (h : fourB a = fourB b) : a = b := by
  unfold fourB at h
  simp only [List.cons.injEq, and_true] at h
  obtain ⟨h1, h2, h3, h4⟩ := h
  have g := fun {x y : Nat} (e : UInt8.ofNat x = UInt8.ofNat y) => (by have := congrArg UInt8.toNat e; rwa [toNat_of, toNat_of] at this : x % 256 = y % 256)
  have := g h1; have := g h2; have := g h3; have := g h4
  omega
theorem sumOf_ltN (l : List UInt8) : sumOf l < 4294967296 := by have := sumOf_lt l; omega
/-- A sealed text of which one byte of the text or of the sum is another one is refused. -/
theorem tkSeal_turned (l : List UInt8) (h : l.length ≤ 65536) (i : Nat) (hi : i < l.length + 4) (x : UInt8) (hx : (putB l)[(numB l.length).length + i]? ≠ some x) :
    tkSeal ((putB l).set ((numB l.length).length + i) x) = ([], [], 3) := by
  have hlen : (numB l.length).length + i < (putB l).length := by rw [len_put]; omega
  by_cases a : i < l.length
  · have e : (putB l).set ((numB l.length).length + i) x = numB l.length ++ (l.set i x ++ fourB (sumOf (numB l.length ++ l))) := by
      unfold putB
      rw [List.append_assoc, List.set_append_right _ _ (by omega), Nat.add_sub_cancel_left, List.set_append_left _ _ a]
    have hx2 : x ≠ l[i] := by
      intro e; apply hx; rw [e]; unfold putB
      rw [List.getElem?_append_left (by simp; omega), List.getElem?_append_right (by omega), Nat.add_sub_cancel_left, List.getElem?_eq_getElem a]
    rw [e]
    refine tkSeal_form (tkNum_numB l.length (by omega) _) h (by simp [len_four]) ?_
    have hh : (numB l.length ++ (l.set i x ++ fourB (sumOf (numB l.length ++ l)))).length - (l.set i x ++ fourB (sumOf (numB l.length ++ l))).length + l.length = (numB l.length ++ l.set i x).length := by simp
    rw [hh, ← List.append_assoc (numB l.length), List.take_left]
    have hl : l.length = (l.set i x).length := by simp
    rw [show List.drop l.length (l.set i x ++ fourB (sumOf (numB l.length ++ l))) = fourB (sumOf (numB l.length ++ l)) by rw [List.drop_append_of_le_length (by simp), List.drop_eq_nil_of_le (by simp), List.nil_append]]
    rw [List.take_of_length_le (by simp [len_four])]
    intro e2
    exact sumOf_set _ _ _ a x hx2 (fourB_inj (sumOf_ltN _) (sumOf_ltN _) e2)
  · have e : (putB l).set ((numB l.length).length + i) x = numB l.length ++ (l ++ (fourB (sumOf (numB l.length ++ l))).set (i - l.length) x) := by
      unfold putB
      rw [List.append_assoc, List.set_append_right _ _ (by omega), Nat.add_sub_cancel_left, List.set_append_right _ _ (by omega)]
    have hx2 : (fourB (sumOf (numB l.length ++ l)))[i - l.length]? ≠ some x := by
      intro e; apply hx; rw [← e]; unfold putB
      rw [List.getElem?_append_right (by simp; omega), List.length_append, show (numB l.length).length + i - ((numB l.length).length + l.length) = i - l.length by omega]
    rw [e]
    refine tkSeal_form (tkNum_numB l.length (by omega) _) h (by simp [len_four]) ?_
    have hh : (numB l.length ++ (l ++ (fourB (sumOf (numB l.length ++ l))).set (i - l.length) x)).length - (l ++ (fourB (sumOf (numB l.length ++ l))).set (i - l.length) x).length + l.length = (numB l.length ++ l).length := by simp
    rw [hh, ← List.append_assoc (numB l.length), List.take_left, List.drop_left, List.take_of_length_le (by simp [len_four])]
    intro e2
    apply hx2
    rw [e2, List.getElem?_set_self (by rw [len_four]; omega)]
end Go.Proofs.YtjbhnkigbobhiaaDoor
