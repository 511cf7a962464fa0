/- The reference of layer 4: Step: a snapshot laid: in plain words. -/
import Derived.Test.YtjbhnkigbobhiaaDoorSe
namespace Go.Proofs.YtjbhnkigbobhiaaDoor
open Go.RowKit

/-- Whether a snapshot at index i of the term t was met in the first k entries. -/
def fndL (base : Nat) (L : List En) (i t k : Nat) : Bool := decide (i - base - 1 < k) && (match L[i - base - 1]? with | some x => decide (x.t = t) | none => false)
/-- What it has kept of the first k entries. -/
def kpL (base : Nat) (L : List En) (i t k : Nat) : List En := if fndL base L i t k then (L.take k).drop (i - base) else []
theorem kpL_zero (base : Nat) (L : List En) (i t : Nat) : fndL base L i t 0 = false ∧ kpL base L i t 0 = [] := by simp [kpL, fndL]
theorem kpL_all (base : Nat) (L : List En) (i t : Nat) (_h : base < i) : kpL base L i t L.length = keptL base L i t := by
  unfold kpL keptL fndL
  by_cases hj : i - base - 1 < L.length
  · rw [List.getElem?_eq_getElem hj]
    simp [hj]
  · rw [List.getElem?_eq_none (by omega)]
    simp
theorem fndL_at (base : Nat) (L : List En) (i t k : Nat) (x : En) (hx : L[k]? = some x) (h : base + k + 1 = i) : fndL base L i t k = false ∧ kpL base L i t k = [] ∧ fndL base L i t (k + 1) = decide (x.t = t) ∧ kpL base L i t (k + 1) = [] := by
  have e : i - base - 1 = k := by omega
  have e2 : i - base = k + 1 := by omega
  have f1 : fndL base L i t k = false := by simp [fndL, e]
  refine ⟨f1, by simp [kpL, f1], by simp [fndL, e, hx], ?_⟩
  unfold kpL
  split
  · rw [e2, List.drop_eq_nil_of_le (by rw [List.length_take]; omega)]
  · rfl
theorem fndL_low (base : Nat) (L : List En) (i t k : Nat) (h : base + k + 1 < i) : fndL base L i t k = false ∧ kpL base L i t k = [] ∧ fndL base L i t (k + 1) = false ∧ kpL base L i t (k + 1) = [] := by
  have f1 : fndL base L i t k = false := by simp [fndL]; intro h'; omega
  have f2 : fndL base L i t (k + 1) = false := by simp [fndL]; intro h'; omega
  exact ⟨f1, by simp [kpL, f1], f2, by simp [kpL, f2]⟩
theorem fndL_up (base : Nat) (L : List En) (i t k : Nat) (x : En) (hx : L[k]? = some x) (hb : base < i) (h : i < base + k + 1) : fndL base L i t (k + 1) = fndL base L i t k ∧ kpL base L i t (k + 1) = (if fndL base L i t k then kpL base L i t k ++ [x] else []) := by
  have a1 : i - base - 1 < k := by omega
  have a2 : i - base - 1 < k + 1 := by omega
  have e : fndL base L i t (k + 1) = fndL base L i t k := by simp [fndL, a1, a2]
  refine ⟨e, ?_⟩
  have hk := (List.getElem?_eq_some_iff.1 hx).1
  unfold kpL
  rw [e]
  split
  · rw [List.take_add_one, hx, List.drop_append_of_le_length (by rw [List.length_take]; omega)]; rfl
  · rfl
theorem kpL_len (base : Nat) (L : List En) (i t k : Nat) : (kpL base L i t k).length ≤ L.length := by
  unfold kpL; split
  · rw [List.length_drop, List.length_take]; omega
  · simp
end Go.Proofs.YtjbhnkigbobhiaaDoor
