/- What a number's bytes come to (layer 1), in plain words. -/
import Derived.Test.YtifdgjmbecilhaaDoorPsize
import Derived.Deep.QuietTactic
import Derived.BigQuiet
import Derived.Lib.Hide
import Derived.Deep.Draws
namespace Go.Proofs.YtifdgjmbecilhaaDoor
open Go.RowKit

/-- What a number's bytes come to: the number, what stands behind it, the error. -/
def tkVal (a : Nat) (l : List UInt8) : Nat := l.foldl (fun v c => v * 256 + c.toNat) a
def tkLen (c : UInt8) : Nat := 2 ^ (c.toNat / 64)
def tkNum : List UInt8 → Nat × List UInt8 × Nat
  | [] => (0, [], 2)
  | c :: r => if r.length + 1 < tkLen c then (0, [], 2) else
      if szOf (tkVal (c.toNat % 64) (r.take (tkLen c - 1))) = tkLen c then (tkVal (c.toNat % 64) (r.take (tkLen c - 1)), r.drop (tkLen c - 1), 0) else (0, [], 3)
/-- The three results as a tuple. -/
def tkOut (r : Nat × List UInt8 × Nat) : Ending := .returned (.tuple #[.int .u64 r.1, .string ⟨r.2.1.toArray⟩, .int .i64 r.2.2])
def TkPost (s : ByteArray) (w : World) (e : Ending) (w' : World) : Prop := e = tkOut (tkNum s.data.toList) ∧ ∃ k, w' = w.drewN k
theorem tkPost_mk {s : ByteArray} {w : World} {l r : List UInt8} {v x : Nat} {V X : Int} {t : ByteArray} (k : Nat) (hs : s.data.toList = l) (h : tkNum l = (v, r, x)) (hv : V = v) (hr : t = ⟨r.toArray⟩) (hx : X = x) :
    TkPost s w (.returned (.tuple #[.int .u64 V, .string t, .int .i64 X])) (w.drewN k) := by
  subst hs; refine ⟨?_, k, rfl⟩; rw [h, hv, hr, hx]; rfl
theorem getAt {s : ByteArray} {l : List UInt8} (h : s.data.toList = l) (i : Nat) (c : UInt8) (hc : l[i]? = some c) (hi : i < s.size) : s[i] = c := by
  subst h
  have : s.data[i]? = some c := by rw [← Array.getElem?_toList]; exact hc
  have h2 := Array.getElem?_eq_some_iff.1 this
  exact h2.2
theorem sizeOf_toList {s : ByteArray} {l : List UInt8} (h : s.data.toList = l) : s.size = l.length := by subst h; rw [Array.length_toList]; rfl
theorem or_byte (x y : Int) (h0 : 0 ≤ x) (h1 : x < 72057594037927936) (h2 : 0 ≤ y) (h3 : y < 256) : Go.bits BinOp.or IntKind.u64 (x * 256) y = x * 256 + y := by
  obtain ⟨a, rfl⟩ := Int.eq_ofNat_of_zero_le h0
  obtain ⟨b, rfl⟩ := Int.eq_ofNat_of_zero_le h2
  have e : (a : Int) * 256 = ((2 ^ 8 * a : Nat) : Int) := by omega
  rw [e, u64_or_nat _ _ (by omega) (by omega), ← Nat.two_pow_add_eq_or_of_lt (by omega)]
  omega
theorem isEmpty_of {s : ByteArray} {c : UInt8} {r : List UInt8} (h : s.data.toList = c :: r) : s.toList.isEmpty = false ∧ (s.toList == []) = false := by
  rw [ByteArray.toList_eq, h]; exact ⟨rfl, rfl⟩
theorem extract_drop {s : ByteArray} {l : List UInt8} (h : s.data.toList = l) (n : Nat) : s.extract n s.size = ⟨(l.drop n).toArray⟩ := by
  subst h; apply ByteArray.ext
  apply Array.toList_inj.1
  rw [ByteArray.data_extract, Array.toList_extract]
  simp only [List.extract_eq_take_drop]
  exact List.take_of_length_le (by rw [List.length_drop, Array.length_toList]; exact Nat.le_refl _)
theorem tkPost_mk0 {s : ByteArray} {w : World} {l r : List UInt8} {v x : Nat} {V X : Int} {t : ByteArray} (hs : s.data.toList = l) (h : tkNum l = (v, r, x)) (hv : V = v) (hr : t = ⟨r.toArray⟩) (hx : X = x) :
    TkPost s w (.returned (.tuple #[.int .u64 V, .string t, .int .i64 X])) w := tkPost_mk 0 hs h hv hr hx
theorem tkNum_ok {c : UInt8} {bs r : List UInt8} {n : Nat} (hn : tkLen c = n) (hb : bs.length + 1 = n) (hz : szOf (tkVal (c.toNat % 64) bs) = n) : tkNum (c :: (bs ++ r)) = (tkVal (c.toNat % 64) bs, r, 0) := by
  have ht : (bs ++ r).take (n - 1) = bs := by rw [show n - 1 = bs.length by omega]; simp
  have hd : (bs ++ r).drop (n - 1) = r := by rw [show n - 1 = bs.length by omega]; simp
  simp only [tkNum]
  rw [hn, if_neg (by simp; omega), ht, hd, if_pos hz]
theorem tkNum_bad {c : UInt8} {bs r : List UInt8} {n : Nat} (hn : tkLen c = n) (hb : bs.length + 1 = n) (hz : szOf (tkVal (c.toNat % 64) bs) ≠ n) : tkNum (c :: (bs ++ r)) = (0, [], 3) := by
  have ht : (bs ++ r).take (n - 1) = bs := by rw [show n - 1 = bs.length by omega]; simp
  simp only [tkNum]
  rw [hn, if_neg (by simp; omega), ht, if_neg hz]
theorem tkNum_short {c : UInt8} {r : List UInt8} {n : Nat} (hn : tkLen c = n) (hb : r.length + 1 < n) : tkNum (c :: r) = (0, [], 2) := by
  simp only [tkNum]
  rw [hn, if_pos hb]
theorem tkLen_of {c : UInt8} {t n : Nat} (h : c.toNat / 64 = t) (hn : 2 ^ t = n) : Hid (tkLen c = n) := by
  show 2 ^ (c.toNat / 64) = n; rw [h, hn]
theorem size_mk (l : List UInt8) : (ByteArray.mk ⟨l⟩).size = l.length := rfl
end Go.Proofs.YtifdgjmbecilhaaDoor
