/- Layer 2 in plain words: sealed texts one behind the other, and whatever stands behind them. -/
import Derived.Test.YtlpdoebmgfcfdaaDoorAm
namespace Go.Proofs.YtlpdoebmgfcfdaaDoor
open Go.RowKit

/-- Sealed texts one behind the other. -/
def putAll (l : List ByteArray) : List UInt8 := l.flatMap fun s => putB s.data.toList
theorem putAll_snoc (l : List ByteArray) (s : ByteArray) : putAll (l ++ [s]) = putAll l ++ putB s.data.toList := by simp [putAll]
theorem putAll_len (l : List ByteArray) (h : ∀ s ∈ l, s.size ≤ 65536) : (putAll l).length ≤ l.length * 65560 := by
  induction l with
  | nil => simp [putAll]
  | cons s l ih =>
    have h1 := ih (fun x hx => h x (List.mem_cons_of_mem _ hx))
    have h2 := h s (List.mem_cons_self ..)
    have h3 : (putB s.data.toList).length ≤ 65560 := by rw [len_put, len_data]; have := numB_le s.size; omega
    have e : putAll (s :: l) = putB s.data.toList ++ putAll l := by simp [putAll]
    rw [e, List.length_append, List.length_cons]; omega
def txts (l : List ByteArray) : List (List UInt8) := l.map (·.data.toList)
theorem all_put (l : List ByteArray) (h : ∀ s ∈ l, s.size ≤ 65536) (more : List UInt8) : allB (putAll l ++ more) = txts l ++ allB more ∧ restB (putAll l ++ more) = restB more := by
  induction l with
  | nil => exact ⟨rfl, rfl⟩
  | cons s l ih =>
    have h1 := ih (fun x hx => h x (List.mem_cons_of_mem _ hx))
    have h2 := h s (List.mem_cons_self ..)
    have e : putAll (s :: l) ++ more = putB s.data.toList ++ (putAll l ++ more) := by simp [putAll]
    have hk := tkSeal_putB s.data.toList (putAll l ++ more) (by rw [len_data]; exact h2)
    rw [← e] at hk
    obtain ⟨a1, a2⟩ := all_ok hk
    rw [a1, a2, h1.1, h1.2]
    exact ⟨rfl, rfl⟩
theorem size_put (l : List ByteArray) (h : ∀ s ∈ l, s.size ≤ 65536) (more : List UInt8) : sizeB (allB (putAll l ++ more)) = (putAll l).length + sizeB (allB more) := by
  have h1 := sizeB_all _ (putAll l ++ more) (Nat.le_refl _)
  have h2 := sizeB_all _ more (Nat.le_refl _)
  rw [(all_put l h more).2, List.length_append] at h1
  omega
/-- An argument that is a slice of strings: its strings. -/
def StrRow (W : World) (a : Option Addr) (len : Nat) (ss : List ByteArray) : Prop :=
  ss.length = len ∧ len * 16 ≤ 140737488351232 ∧ ∀ i x, ss[i]? = some x → ∃ b off, a = some ⟨b, off, none⟩ ∧ b < W.heap.size ∧ W.cell? ⟨b, off + i, none⟩ = some (.string x)
end Go.Proofs.YtlpdoebmgfcfdaaDoor
