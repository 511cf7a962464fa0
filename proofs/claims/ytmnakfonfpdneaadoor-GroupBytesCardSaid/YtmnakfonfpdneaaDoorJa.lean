/- pack.Nums: several numbers' bytes, for every list of numbers that may be. -/
import Derived.Test.YtmnakfonfpdneaaDoorPlay
import Derived.Lib.Hide
import Derived.Laws.MakeOwn
import Derived.OwnWalk
namespace Go.Proofs.YtmnakfonfpdneaaDoor
open Go.RowKit

/-- Numbers' bytes: how many there are, then each. -/
def numsB (L : List Nat) : List UInt8 := numB L.length ++ L.flatMap numB
/-- The first k of them. -/
def preB (L : List Nat) (k : Nat) : List UInt8 := numB L.length ++ (L.take k).flatMap numB
theorem preB_all (L : List Nat) : preB L L.length = numsB L := by unfold preB numsB; rw [List.take_length]
theorem preB_succ (L : List Nat) (k : Nat) (h : k < L.length) : preB L (k + 1) = preB L k ++ numB L[k] := by
  unfold preB; rw [List.take_succ_eq_append_getElem h, List.flatMap_append, List.append_assoc]; simp
theorem numB_pos (n : Nat) (h : n < 4611686018427387904) : 1 ≤ (numB n).length ∧ (numB n).length ≤ 8 := by
  have := numB_len (n : Int) (by omega) (by omega)
  rw [Int.toNat_natCast] at this
  unfold szOf at this
  constructor <;> split at this <;> (try omega) <;> split at this <;> (try omega) <;> split at this <;> (try omega) <;> split at this <;> omega
theorem preB_le (L : List Nat) (h : ∀ v ∈ L, v < 4611686018427387904) (hl : L.length ≤ 1048576) : ∀ k, k ≤ L.length → (preB L k).length ≤ 8 + 8 * k
  | 0, _ => by have := numB_pos L.length (by omega); simp [preB]; omega
  | k + 1, hk => by
    have h1 := preB_le L h hl k (by omega)
    have h2 := numB_pos L[k] (h _ (List.getElem_mem _))
    rw [preB_succ L k (by omega), List.length_append]; omega
theorem preB_mono (L : List Nat) (k : Nat) : (preB L k).length ≤ (numsB L).length := by
  have e : (L.flatMap numB).length = ((L.take k).flatMap numB).length + ((L.drop k).flatMap numB).length := by
    conv => lhs; rw [← List.take_append_drop k L]
    rw [List.flatMap_append, List.length_append]
  unfold preB numsB
  rw [List.length_append, List.length_append, e]; omega
theorem preB_lt (L : List Nat) (_ : ∀ v ∈ L, v < 4611686018427387904) (k : Nat) (hk : k < L.length) : (preB L k).length + (numB L[k]).length ≤ (numsB L).length := by
  have := preB_mono L (k + 1)
  rw [preB_succ L k hk, List.length_append] at this; exact this
/-- The row while it is laid: the bytes so far, then zeros. -/
def rowB (P : List UInt8) (n : Nat) : List Value := P.map u8v ++ List.replicate (n - P.length) (.int .u8 0)
theorem rowB_len (P : List UInt8) (n : Nat) (h : P.length ≤ n) : (rowB P n).length = n := by simp [rowB]; omega
theorem rowB_splice (P Q : List UInt8) (n : Nat) : splice (rowB P n) P.length (Q.map u8v) = rowB (P ++ Q) n := by
  unfold splice rowB
  rw [List.take_left' (by simp), show P.length + (Q.map u8v).length = (P.map u8v).length + Q.length by simp, List.drop_append, List.map_append, List.append_assoc]
  congr 2
  rw [List.drop_eq_nil_of_le (by omega), List.nil_append, List.drop_replicate, List.length_append]
  congr 1
  simp; omega
theorem rowB_all (P : List UInt8) : rowB P P.length = P.map u8v := by simp [rowB]
theorem infoU8 : (Tryd.prog.info? 5).map (fun i => (i.zero, i.size, i.bytes)) = some (some (.int .u8 0), 1, 1) := by kernel_rfl
theorem madeB : ∀ n : Nat, madeCells [Value.int .u8 0].toArray (n * 1) = (List.replicate n (Value.int .u8 0)).toArray := by
  intro n; rw [Nat.mul_one]
  apply Array.ext
  · rw [size_madeCells]; simp
  · intro i h1 h2
    have e : (madeCells [Value.int .u8 0].toArray n)[i]? = some (.int .u8 0) := by
      have h3 : i < n := by rw [size_madeCells] at h1; exact h1
      simp [madeCells, h3, Nat.mod_one]
    rw [Array.getElem?_eq_getElem h1] at e
    rw [Option.some.inj e]; simp
theorem mkB (n : Nat) (w : World) (hn : n ≤ 16777216) : (Instr.makeSlice 64 (.int .i64 n) (.int .i64 n)).run Tryd.prog w = .ok (.slice (some ⟨w.heap.size, 0, none⟩) n n) (w.alloc (.cells (rowB [] n).toArray 5)) := by
  obtain ⟨i0, hi, hz0, hz1, hz2⟩ := info_parts infoU8
  have h := run_makeSlice (P := Tryd.prog) (w := w) 64 5 i0 (.int .u8 0) Tryd.underlying64 hi hz0 .i64 .i64 n n (by omega) (Int.le_refl _) (by rw [hz1]; omega) (by rw [hz2]; omega) (by omega)
  rw [Int.toNat_natCast, hz1] at h
  rw [h, show (Value.int IntKind.u8 0).cells = [Value.int .u8 0].toArray from rfl, madeB]
  simp [rowB]
end Go.Proofs.YtmnakfonfpdneaaDoor
