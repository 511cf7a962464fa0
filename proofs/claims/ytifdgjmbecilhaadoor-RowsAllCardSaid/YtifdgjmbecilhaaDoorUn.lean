/- Layer 11 in plain words: a right list's bytes are taken as the list. -/
import Derived.Test.YtifdgjmbecilhaaDoorUi
import Derived.Test.YtifdgjmbecilhaaDoorUk
namespace Go.Proofs.YtifdgjmbecilhaaDoor
open Go.RowKit

theorem toNat_of (n : Nat) : (UInt8.ofNat n).toNat = n % 256 := by simp
theorem shape_mk (n : Nat) {c : UInt8} {bs : List UInt8} (h1 : numB n = c :: bs) (h2 : tkLen c = bs.length + 1) (h3 : tkVal (c.toNat % 64) bs = n) (h4 : szOf n = ((bs.length + 1 : Nat) : Int)) :
    ∃ c bs, numB n = c :: bs ∧ tkLen c = bs.length + 1 ∧ tkVal (c.toNat % 64) bs = n ∧ szOf n = ((bs.length + 1 : Nat) : Int) := ⟨c, bs, h1, h2, h3, h4⟩
theorem len4_of (n : Nat) (h : n < 1073741824) : tkLen (UInt8.ofNat ((n + 2147483648) / 16777216)) = 4 := by
  unfold tkLen; rw [toNat_of, show (n + 2147483648) / 16777216 % 256 / 64 = 2 by omega]
theorem val4_of (n : Nat) (h : n < 1073741824) : ((((n + 2147483648) / 16777216 % 256 % 64) * 256 + (n + 2147483648) / 65536 % 256) * 256 + (n + 2147483648) / 256 % 256) * 256 + (n + 2147483648) % 256 = n := by omega
theorem bytes4_of (n : Nat) (h : n < 1073741824) (b : 16384 ≤ n) : numB n = UInt8.ofNat ((n + 2147483648) / 16777216) :: [UInt8.ofNat ((n + 2147483648) / 65536), UInt8.ofNat ((n + 2147483648) / 256), UInt8.ofNat (n + 2147483648)] := by
  rw [numB_4 (by omega) h]
  simp only [beB, List.range_succ, List.range_zero, List.nil_append, List.cons_append, List.map_cons, List.map_nil, Nat.reduceSub, Nat.reducePow, Nat.div_one]
theorem tkVal3 (a : Nat) (x y z : UInt8) : tkVal a [x, y, z] = ((a * 256 + x.toNat) * 256 + y.toNat) * 256 + z.toNat := rfl
theorem tkVal1 (a : Nat) (x : UInt8) : tkVal a [x] = a * 256 + x.toNat := rfl
theorem len3 (x y z : UInt8) : [x, y, z].length + 1 = 4 := rfl
theorem len1 (x : UInt8) : [x].length + 1 = 2 := rfl
/-- A number's bytes: the first one tells how many they are, and all tell the number. -/
theorem numB_shape (n : Nat) (h : n < 1073741824) : ∃ c bs, numB n = c :: bs ∧ tkLen c = bs.length + 1 ∧ tkVal (c.toNat % 64) bs = n ∧ szOf n = ((bs.length + 1 : Nat) : Int) := by
  by_cases a : n < 64
  · refine shape_mk n (c := UInt8.ofNat n) (bs := []) ?_ ?_ ?_ ?_
    · rw [numB_1 a]; simp [beB]
    · unfold tkLen; rw [toNat_of, show n % 256 / 64 = 0 by omega]; rfl
    · simp only [tkVal, List.foldl_nil, toNat_of]; omega
    · rw [szOf1 (by omega)]; rfl
  by_cases b : n < 16384
  · refine shape_mk n (c := UInt8.ofNat ((n + 16384) / 256)) (bs := [UInt8.ofNat (n + 16384)]) ?_ ?_ ?_ ?_
    · rw [numB_2 (by omega) b]
      simp only [beB, List.range_succ, List.range_zero, List.nil_append, List.cons_append, List.map_cons, List.map_nil, Nat.reduceSub, Nat.reducePow, Nat.div_one]
    · unfold tkLen; rw [toNat_of, show (n + 16384) / 256 % 256 / 64 = 1 by omega, len1]
    · rw [tkVal1, toNat_of, toNat_of]; omega
    · rw [szOf2 (by omega) (by omega), len1]; rfl
  · refine shape_mk n (bytes4_of n h (by omega)) ?_ ?_ ?_
    · rw [len4_of n h, len3]
    · rw [tkVal3, toNat_of, toNat_of, toNat_of, toNat_of]; exact val4_of n h
    · rw [szOf4 (by omega) (by omega), len3]; rfl
theorem len8_of (n : Nat) (h : n < 4611686018427387904) : tkLen (UInt8.ofNat ((n + 13835058055282163712) / 72057594037927936)) = 8 := by
  unfold tkLen; rw [toNat_of, show (n + 13835058055282163712) / 72057594037927936 % 256 / 64 = 3 by omega]
theorem st8 (n c k : Nat) (hk : 0 < k) : n / (k * 256) * 256 + (n + c * 256 * k) / k % 256 = n / k := by
  rw [Nat.add_mul_div_right _ _ hk, ← Nat.div_div_eq_div_mul]; omega
theorem val8_of (n : Nat) (h : n < 4611686018427387904) :
    (((((((n + 13835058055282163712) / 72057594037927936 % 256 % 64) * 256 + (n + 13835058055282163712) / 281474976710656 % 256) * 256 + (n + 13835058055282163712) / 1099511627776 % 256) * 256 + (n + 13835058055282163712) / 4294967296 % 256) * 256 + (n + 13835058055282163712) / 16777216 % 256) * 256 + (n + 13835058055282163712) / 65536 % 256) * 256 + (n + 13835058055282163712) / 256 % 256 = n / 256 := by
  have e7 : (n + 13835058055282163712) / 72057594037927936 % 256 % 64 = n / 72057594037927936 := by omega
  have e6 : n / 72057594037927936 * 256 + (n + 13835058055282163712) / 281474976710656 % 256 = n / 281474976710656 := by simpa only [Nat.reduceMul] using st8 n 192 281474976710656 (by decide)
  have e5 : n / 281474976710656 * 256 + (n + 13835058055282163712) / 1099511627776 % 256 = n / 1099511627776 := by simpa only [Nat.reduceMul] using st8 n 49152 1099511627776 (by decide)
  have e4 : n / 1099511627776 * 256 + (n + 13835058055282163712) / 4294967296 % 256 = n / 4294967296 := by simpa only [Nat.reduceMul] using st8 n 12582912 4294967296 (by decide)
  have e3 : n / 4294967296 * 256 + (n + 13835058055282163712) / 16777216 % 256 = n / 16777216 := by simpa only [Nat.reduceMul] using st8 n 3221225472 16777216 (by decide)
  have e2 : n / 16777216 * 256 + (n + 13835058055282163712) / 65536 % 256 = n / 65536 := by simpa only [Nat.reduceMul] using st8 n 824633720832 65536 (by decide)
  have e1 : n / 65536 * 256 + (n + 13835058055282163712) / 256 % 256 = n / 256 := by simpa only [Nat.reduceMul] using st8 n 211106232532992 256 (by decide)
  rw [e7, e6, e5, e4, e3, e2, e1]
theorem bytes8_of (n : Nat) (b : 1073741824 ≤ n) : numB n = UInt8.ofNat ((n + 13835058055282163712) / 72057594037927936) :: [UInt8.ofNat ((n + 13835058055282163712) / 281474976710656), UInt8.ofNat ((n + 13835058055282163712) / 1099511627776), UInt8.ofNat ((n + 13835058055282163712) / 4294967296), UInt8.ofNat ((n + 13835058055282163712) / 16777216), UInt8.ofNat ((n + 13835058055282163712) / 65536), UInt8.ofNat ((n + 13835058055282163712) / 256), UInt8.ofNat (n + 13835058055282163712)] := by
  rw [numB_8 b]
  simp only [beB, List.range_succ, List.range_zero, List.nil_append, List.cons_append, List.map_cons, List.map_nil, Nat.reduceSub, Nat.reducePow, Nat.div_one]
theorem tkVal7 (a : Nat) (x1 x2 x3 x4 x5 x6 x7 : UInt8) : tkVal a [x1, x2, x3, x4, x5, x6, x7] = ((((((a * 256 + x1.toNat) * 256 + x2.toNat) * 256 + x3.toNat) * 256 + x4.toNat) * 256 + x5.toNat) * 256 + x6.toNat) * 256 + x7.toNat := rfl
theorem len7 (x1 x2 x3 x4 x5 x6 x7 : UInt8) : [x1, x2, x3, x4, x5, x6, x7].length + 1 = 8 := rfl
theorem numB_shape8 (n : Nat) (h : n < 4611686018427387904) : ∃ c bs, numB n = c :: bs ∧ tkLen c = bs.length + 1 ∧ tkVal (c.toNat % 64) bs = n ∧ szOf n = ((bs.length + 1 : Nat) : Int) := by
  by_cases a : n < 1073741824
  · exact numB_shape n a
  · refine shape_mk n (bytes8_of n (by omega)) ?_ ?_ ?_
    · rw [len8_of n h, len7]
    · rw [tkVal7, toNat_of, toNat_of, toNat_of, toNat_of, toNat_of, toNat_of, toNat_of, toNat_of, val8_of n h]; omega
    · rw [szOf8 (by omega) (by omega), len7]; rfl
theorem tkNum_numB8 (n : Nat) (h : n < 4611686018427387904) (r : List UInt8) : tkNum (numB n ++ r) = (n, r, 0) := by
  obtain ⟨c, bs, e, hl, hv, hz⟩ := numB_shape8 n h
  rw [e, List.cons_append, tkNum_ok (n := bs.length + 1) hl rfl (by rw [hv, hz]), hv]
theorem txG_txB (s : ByteArray) (h : s.size ≤ 4096) (r : List UInt8) : txG (txB s ++ r) = some (s.data.toList, r) := by
  have e : txB s ++ r = numB s.size ++ (s.data.toList ++ r) := by unfold txB; rw [List.append_assoc]
  have e2 := tkNum_numB8 s.size (by omega) (s.data.toList ++ r)
  have hl : s.data.toList.length = s.size := by rw [Array.length_toList]; rfl
  unfold txG
  rw [e, e2]
  simp only
  rw [if_neg (by rw [List.length_append]; omega), ← hl, List.take_left, List.drop_left]
theorem tkRow_roB (x : Ro) (h : rowOk x = true) (r : List UInt8) : tkRow (roB x ++ r) = some (x, r) := by
  simp only [rowOk, Bool.and_eq_true, decide_eq_true_eq] at h
  obtain ⟨h1, h2, h3, h4⟩ := h
  have e : roB x ++ r = txB x.key ++ (txB x.val ++ (numB x.ver ++ r)) := by unfold roB; simp only [List.append_assoc]
  unfold tkRow
  rw [e, txG_txB _ (by omega)]
  simp only
  rw [txG_txB _ (by omega)]
  simp only
  rw [tkNum_numB8 _ (by omega)]
  simp only [if_true, ba_eta]
theorem tkRows_rosB : ∀ (L : List Ro), (∀ x ∈ L, rowOk x = true) → ∀ r, tkRows L.length (rosB L ++ r) = some (L, r)
  | [], _, r => rfl
  | x :: l, h, r => by
    have e : rosB (x :: l) ++ r = roB x ++ (rosB l ++ r) := by unfold rosB; simp only [List.flatMap_cons, List.append_assoc]
    simp only [List.length_cons, tkRows]
    rw [e, tkRow_roB x (h x (by simp))]
    simp only
    rw [tkRows_rosB l (fun y hy => h y (List.mem_cons_of_mem _ hy))]
/-- A right list is taken from its bytes, whatever stands behind them. -/
theorem takeR_rowsB (L : List Ro) (h : rightB L = true) (r : List UInt8) : takeR (rowsB L ++ r) = (L, r, 0) := by
  obtain ⟨h1, h2, _⟩ := (rightB_iff L).1 h
  have e : rowsB L ++ r = numB L.length ++ (rosB L ++ r) := by unfold rowsB; rw [List.append_assoc]
  have e2 := tkNum_numB8 L.length (by omega) (rosB L ++ r)
  have e3 := tkRows_rosB L h2 r
  unfold takeR
  rw [e, e2]
  simp only
  rw [if_neg (by omega), e3]
  simp only [h, if_true]
theorem takeR_len (s : List UInt8) : (takeR s).1.length ≤ 140737488351232 := by
  unfold takeR
  split
  · simp
  · rcases tkRows (tkNum s).1 (tkNum s).2.1 with _ | ⟨l, q⟩
    · simp
    · simp only
      by_cases h : rightB l = true
      · rw [if_pos h]; have := ((rightB_iff l).1 h).1; simp only; omega
      · rw [if_neg h]; simp
theorem doR_lenB {L : List Ro} {p : Pu} {ver : Nat} (h : L.length ≤ 140737488351232) : (doR L p ver).1.length ≤ 140737488351232 := by
  have := doR_len32 L p ver; omega
theorem seqR_lenB {ver : Nat} : ∀ (P : List Pu) (L : List Ro), L.length ≤ 140737488351232 → (seqR ver L P).1.length ≤ 140737488351232
  | [], L, h => h
  | p :: r, L, h => by
    simp only [seqR]
    split
    · exact seqR_lenB r _ (doR_lenB h)
    · simp
theorem allR_lenB {L : List Ro} {P : List Pu} {ver : Nat} (h : L.length ≤ 140737488351232) : (allR L P ver).1.length ≤ 140737488351232 := by
  unfold allR
  split
  · simp
  split
  · exact seqR_lenB _ _ (seqR_lenB _ _ h)
  · simp
end Go.Proofs.YtifdgjmbecilhaaDoor
