/- What a majority has: the document's Agreed. -/
import Derived.Test.YtmnakfonfpdneaaDoorGy
namespace Go.Proofs.YtmnakfonfpdneaaDoor
open Go.RowKit

/-- How many are at least v. -/
def geC (v : Nat) (D : List Nat) : Nat := D.countP fun x => decide (v ≤ x)
theorem geC_snoc (v x : Nat) (D : List Nat) : geC v (D ++ [x]) = geC v D + if v ≤ x then 1 else 0 := by
  unfold geC; rw [List.countP_append]; by_cases h : v ≤ x <;> simp [h]
theorem geC_le (v : Nat) (D : List Nat) : geC v D ≤ D.length := List.countP_le_length
theorem descL_perm (D : List Nat) : (descL D).Perm D := List.mergeSort_perm _ _
theorem descL_sorted (D : List Nat) : (descL D).Pairwise fun x y => y ≤ x := by
  have h := List.pairwise_mergeSort (le := fun x y : Nat => decide (y ≤ x)) (by intro a b c h1 h2; simp at *; omega) (by intro a b; simp; omega) D
  exact h.imp (by intro a b h; simpa using h)
theorem descL_at {D : List Nat} {i j x y : Nat} (hx : (descL D)[i]? = some x) (hy : (descL D)[j]? = some y) (hij : i ≤ j) : y ≤ x := by
  obtain ⟨hi, rfl⟩ := List.getElem?_eq_some_iff.1 hx
  obtain ⟨hj, rfl⟩ := List.getElem?_eq_some_iff.1 hy
  rcases Nat.lt_or_ge i j with h | h
  · exact (List.pairwise_iff_getElem.1 (descL_sorted D)) i j hi hj h
  · obtain rfl : i = j := by omega
    exact Nat.le_refl _
theorem le_agL (D : List Nat) (v : Nat) : v ≤ agL D ↔ v = 0 ∨ D.length / 2 + 1 ≤ geC v D := by
  have hl := descL_len D
  have hp : geC v (descL D) = geC v D := (descL_perm D).countP_eq _
  rw [← hp, ← hl]
  unfold agL
  rcases Nat.eq_zero_or_pos D.length with h0 | h0
  · have e : (descL D)[D.length / 2]? = none := List.getElem?_eq_none (by omega)
    have := geC_le v (descL D)
    rw [e]; simp; omega
  · obtain ⟨s, hs⟩ : ∃ s, (descL D)[D.length / 2]? = some s := ⟨_, List.getElem?_eq_getElem (by omega)⟩
    rw [hs]
    simp only [Option.getD_some]
    have e : geC v (descL D) = geC v ((descL D).take (D.length / 2 + 1)) + geC v ((descL D).drop (D.length / 2 + 1)) := by
      unfold geC; rw [← List.countP_append, List.take_append_drop]
    have e2 : geC v (descL D) = geC v ((descL D).take (D.length / 2)) + geC v ((descL D).drop (D.length / 2)) := by
      unfold geC; rw [← List.countP_append, List.take_append_drop]
    constructor
    · intro h
      right
      have h2 : geC v ((descL D).take (D.length / 2 + 1)) = ((descL D).take (D.length / 2 + 1)).length := by
        unfold geC
        refine List.countP_eq_length.2 fun x hx => ?_
        obtain ⟨j, hj⟩ := List.mem_iff_getElem?.1 hx
        have hjl := (List.getElem?_eq_some_iff.1 hj).1
        rw [List.length_take] at hjl
        rw [List.getElem?_take_of_lt (by omega)] at hj
        have := descL_at hj hs (by omega)
        simp; omega
      rw [List.length_take] at h2
      omega
    · rintro (h | h)
      · omega
      · refine Classical.byContradiction fun hc => ?_
        have h2 : geC v ((descL D).drop (D.length / 2)) = 0 := by
          unfold geC
          refine List.countP_eq_zero.2 fun x hx => ?_
          obtain ⟨j, hj⟩ := List.mem_iff_getElem?.1 hx
          rw [List.getElem?_drop] at hj
          have := descL_at hs hj (by omega)
          simp; omega
        have h3 := geC_le v ((descL D).take (D.length / 2))
        rw [List.length_take] at h3
        omega
theorem agL_mem {D : List Nat} (h : 0 < D.length) : agL D ∈ D := by
  obtain ⟨s, hs⟩ : ∃ s, (descL D)[D.length / 2]? = some s := ⟨_, List.getElem?_eq_getElem (by rw [descL_len]; omega)⟩
  unfold agL
  rw [hs]
  exact (descL_perm D).mem_iff.1 (List.mem_of_getElem? hs)
theorem agL_nil : agL [] = 0 := by unfold agL; rw [List.getElem?_eq_none (by rw [descL_len]; exact Nat.zero_le _)]; rfl
/-- Where numbers rise, what a majority has does not fall. -/
theorem agL_mono {D E : List Nat} (hl : D.length = E.length) (h : ∀ j x y : Nat, D[j]? = some x → E[j]? = some y → x ≤ y) : agL D ≤ agL E := by
  rw [le_agL]
  rcases (le_agL D (agL D)).1 (Nat.le_refl _) with h0 | h0
  · exact .inl h0
  · right
    rw [← hl]
    refine Nat.le_trans h0 ?_
    generalize agL D = v
    clear h0
    induction D generalizing E with
    | nil => simp [geC]
    | cons x D ih =>
      cases E with
      | nil => simp at hl
      | cons y E =>
        have h1 := ih (E := E) (by simpa using hl) fun j a b ha hb => h (j + 1) a b (by simpa using ha) (by simpa using hb)
        have h2 := h 0 x y rfl rfl
        unfold geC at h1 ⊢
        rw [List.countP_cons, List.countP_cons]
        by_cases c1 : v ≤ x
        · have c2 : v ≤ y := by omega
          simp [c1, c2]; exact h1
        · simp [c1]; omega
end Go.Proofs.YtmnakfonfpdneaaDoor
