/- What a sealed text's taking comes to: the shape of the answer, in plain words. -/
import Derived.Test.YtjbhnkigbobhiaaDoorNt
namespace Go.Proofs.YtjbhnkigbobhiaaDoor
open Go.RowKit

def TsPost (s : ByteArray) (w : World) (e : Ending) (w' : World) : Prop :=
  e = .returned (.tuple #[.string ⟨(tkSeal s.data.toList).1.toArray⟩, .string ⟨(tkSeal s.data.toList).2.1.toArray⟩, .int .i64 (tkSeal s.data.toList).2.2]) ∧ Below w.heap.size w w'
theorem tsPost_mk {s : ByteArray} {w w' : World} {t r : List UInt8} {x : Nat} {X : Int} {T R : ByteArray} (h : tkSeal s.data.toList = (t, r, x)) (ht : T = ⟨t.toArray⟩) (hr : R = ⟨r.toArray⟩) (hx : X = x) (hb : Below w.heap.size w w') :
    TsPost s w (.returned (.tuple #[.string T, .string R, .int .i64 X])) w' := by
  refine ⟨?_, hb⟩; rw [h, ht, hr, hx]
theorem tkSeal_err {l r : List UInt8} {n x : Nat} (h : tkNum l = (n, r, x)) (hx : x ≠ 0) : tkSeal l = ([], [], x) := by unfold tkSeal; rw [h]; simp [hx]
theorem tkSeal_big {l r : List UInt8} {n : Nat} (h : tkNum l = (n, r, 0)) (hn : 65536 < n) : tkSeal l = ([], [], 4) := by unfold tkSeal; rw [h]; simp [hn]
theorem tkSeal_more {l r : List UInt8} {n : Nat} (h : tkNum l = (n, r, 0)) (hn : n ≤ 65536) (hr : r.length < n + 4) : tkSeal l = ([], [], 2) := by unfold tkSeal; rw [h]; simp [hr]; omega
theorem tkSeal_form {l r : List UInt8} {n : Nat} (h : tkNum l = (n, r, 0)) (hn : n ≤ 65536) (hr : n + 4 ≤ r.length) (hs : fourB (sumOf (l.take (l.length - r.length + n))) ≠ (r.drop n).take 4) : tkSeal l = ([], [], 3) := by
  unfold tkSeal; rw [h]; simp only [ne_eq, not_true_eq_false, if_false]
  rw [if_neg (by omega), if_neg (by omega), if_neg hs]
theorem tkSeal_ok {l r : List UInt8} {n : Nat} (h : tkNum l = (n, r, 0)) (hn : n ≤ 65536) (hr : n + 4 ≤ r.length) (hs : fourB (sumOf (l.take (l.length - r.length + n))) = (r.drop n).take 4) : tkSeal l = (r.take n, r.drop (n + 4), 0) := by
  unfold tkSeal; rw [h]; simp only [ne_eq, not_true_eq_false, if_false]
  rw [if_neg (by omega), if_neg (by omega), if_pos hs]
/-- What stands behind a number is an end of the bytes. -/
theorem tkNum_le {l r : List UInt8} {n x : Nat} (h : tkNum l = (n, r, x)) : r.length ≤ l.length := by
  unfold tkNum at h
  split at h
  · cases h; simp
  · split at h
    · cases h; simp
    · split at h
      · cases h; simp; omega
      · cases h; simp
theorem ext_take (r : List UInt8) (n : Nat) : (ByteArray.mk r.toArray).extract 0 n = ⟨(r.take n).toArray⟩ := by
  rw [ByteArray.extract_mk, List.drop_zero, Nat.sub_zero]
theorem ext_drop (r : List UInt8) (n : Nat) : (ByteArray.mk r.toArray).extract n r.length = ⟨(r.drop n).toArray⟩ := by
  rw [ByteArray.extract_mk, List.take_of_length_le (by rw [List.length_drop]; exact Nat.le_refl _)]
theorem extract_four (r : List UInt8) (n : Nat) : ((ByteArray.mk r.toArray).extract n (n + 4)).toList = (r.drop n).take 4 := by
  rw [ByteArray.extract_mk, ByteArray.toList_mk, Nat.add_sub_cancel_left]
end Go.Proofs.YtjbhnkigbobhiaaDoor
