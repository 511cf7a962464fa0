/- Layer 4 in plain words: notes' bytes that are cut anywhere read as the whole notes ahead of the cut. -/
import Derived.Test.YtjbhnkigbobhiaaDoorBk
namespace Go.Proofs.YtjbhnkigbobhiaaDoor
open Go.RowKit

theorem note_cut (n : Nt) (h : n.ok) (k : Nat) (hk : k < (noteB n).length) : noteAt ((noteB n).take k) = none := by
  have e := tkSeal_cut (bodyB n) (by have := body_len h; omega) k hk
  unfold noteAt
  show (match tkSeal ((putB (bodyB n)).take k) with | (t, r, 0) => (oneL t).map fun n => (n, r) | _ => none) = none
  rw [e]; rfl
/-- The notes that a cut leaves whole: how many, and what stands behind them. -/
theorem rd_cut (M : List Nt) (h : ∀ n ∈ M, n.ok) : ∀ c, c ≤ (catB M).length →
    ∃ j r, j ≤ M.length ∧ rdB ((catB M).take c) = (M.take j, r) ∧ (catB (M.take j)).length + r.length = c ∧ ∀ k, k ≤ M.length → (catB (M.take k)).length ≤ c → k ≤ j := by
  induction M with
  | nil =>
    intro c hc
    have e : (catB ([] : List Nt)).take c = [] := by simp [catB]
    rw [e, rd_nil]
    have h0 : (catB ([] : List Nt)).length = 0 := rfl
    exact ⟨0, [], Nat.le_refl _, rfl, by simp [catB]; omega, fun k hk _ => hk⟩
  | cons x N ih =>
    intro c hc
    have ex : catB (x :: N) = noteB x ++ catB N := by simp [catB]
    have et : ∀ k, catB ((x :: N).take (k + 1)) = noteB x ++ catB (N.take k) := fun k => by simp [catB]
    rw [ex] at hc ⊢
    rw [List.length_append] at hc
    by_cases hl : c < (noteB x).length
    · have e : (noteB x ++ catB N).take c = (noteB x).take c := List.take_append_of_le_length (by omega)
      rw [e, rd_none (note_cut x (h x (by simp)) c hl)]
      refine ⟨0, _, Nat.zero_le _, rfl, by simp [catB]; omega, fun k hk hkc => ?_⟩
      cases k with
      | zero => exact Nat.le_refl _
      | succ k => rw [et, List.length_append] at hkc; omega
    · have e : (noteB x ++ catB N).take c = noteB x ++ (catB N).take (c - (noteB x).length) := by
        rw [List.take_append, List.take_of_length_le (by omega)]
      obtain ⟨j, r, hj, hr, hc2, hk2⟩ := ih (fun n hn => h n (by simp [hn])) (c - (noteB x).length) (by omega)
      rw [e, rd_some (note_at x (h x (by simp)) _), hr]
      refine ⟨j + 1, r, by simp; omega, rfl, by rw [et, List.length_append]; omega, fun k hk hkc => ?_⟩
      cases k with
      | zero => exact Nat.zero_le _
      | succ k =>
        rw [et, List.length_append] at hkc
        have := hk2 k (by simp at hk; omega) (by omega)
        omega
theorem catB_split (M : List Nt) (j : Nat) : catB M = catB (M.take j) ++ catB (M.drop j) := by
  have e : M = M.take j ++ M.drop j := (List.take_append_drop _ _).symm
  conv => lhs; rw [e]
  unfold catB; rw [List.flatMap_append]
theorem catB_snoc (M : List Nt) (x : Nt) : catB (M ++ [x]) = catB M ++ noteB x := by unfold catB; rw [List.flatMap_append]; simp
theorem take_cat (M : List Nt) (j c : Nat) (h : (catB (M.take j)).length ≤ c) : ((catB M).take c).take (catB (M.take j)).length = catB (M.take j) := by
  rw [List.take_take, Nat.min_eq_left h, catB_split M j, List.take_left]
theorem mk_app (a b : List UInt8) : ByteArray.mk a.toArray ++ ByteArray.mk b.toArray = ByteArray.mk (a ++ b).toArray := by
  rw [app_mk]
theorem mk_extract (a : List UInt8) (k : Nat) : (ByteArray.mk a.toArray).extract 0 k = ByteArray.mk (a.take k).toArray := by
  apply ByteArray.ext; apply Array.toList_inj.1; simp
theorem nts_take {w : World} {a : Option Addr} {M : List Nt} (h : Nts w a M) (j : Nat) : Nts w a (M.take j) := fun i x hx => by
  rw [List.getElem?_take] at hx
  split at hx
  · exact h i x hx
  · cases hx
end Go.Proofs.YtjbhnkigbobhiaaDoor
