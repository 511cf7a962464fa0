/- The program's May, in plain words. -/
import Derived.Test.YtjbhnkigbobhiaaDoorMy
namespace Go.Proofs.YtjbhnkigbobhiaaDoor
open Go.RowKit

def baseOk (base bt : Nat) (snap : ByteArray) : Prop := (base = 0 → bt = 0 ∧ snap.size = 0) ∧ base ≤ 1099511627776 ∧ snap.size ≤ 4096
def dataOk (L : List En) : Prop := ∀ x ∈ L, x.d.size ≤ 4096
def entsOk (base : Nat) (L : List En) : Prop := L.length ≤ 1024 ∧ base + L.length ≤ 1099511627776 ∧ dataOk L
/-- The term of the k-th entry, the base's term ahead of the first. -/
def hiT (bt : Nat) (L : List En) : Nat → Nat
  | 0 => bt
  | k + 1 => match L[k]? with | some x => x.t | none => 0
def ascT (bt : Nat) (L : List En) (k : Nat) : Prop := ∀ j, j < k → hiT bt L j ≤ hiT bt L (j + 1)
def termsOk (term bt : Nat) (L : List En) : Prop := ascT bt L L.length ∧ hiT bt L L.length ≤ term
theorem hiT_succ {bt : Nat} {L : List En} {k : Nat} {x : En} (h : L[k]? = some x) : hiT bt L (k + 1) = x.t := by simp only [hiT, h]
theorem ascT_le {bt : Nat} {L : List En} {n : Nat} (h : ascT bt L n) : ∀ m, m ≤ n → ∀ j, j ≤ m → hiT bt L j ≤ hiT bt L m := by
  intro m
  induction m with
  | zero => intro _ j hj; have e : j = 0 := Nat.le_zero.1 hj; rw [e]; exact Nat.le_refl _
  | succ m ih =>
    intro hm j hj
    by_cases e : j = m + 1
    · subst e; exact Nat.le_refl _
    · exact Nat.le_trans (ih (by omega) j (by omega)) (h m (by omega))
theorem ents_terms (term bt : Nat) (L : List En) : (bt ≤ term ∧ ∀ k, entOk term bt L k) ↔ (termsOk term bt L ∧ dataOk L) := by
  constructor
  · rintro ⟨h0, h⟩
    refine ⟨⟨fun j hj => ?_, ?_⟩, fun x hx => ?_⟩
    · have hx := List.getElem?_eq_getElem hj
      obtain ⟨_, b1, b2, _⟩ := h j _ hx
      rw [hiT_succ hx]
      cases j with
      | zero => exact b1
      | succ j =>
        have hy := List.getElem?_eq_getElem (show j < L.length by omega)
        rw [hiT_succ hy]
        exact b2 _ (by omega) (by simp)
    · cases hL : L.length with
      | zero => exact h0
      | succ m =>
        have hx := List.getElem?_eq_getElem (show m < L.length by omega)
        rw [hiT_succ hx]
        exact (h m _ hx).1
    · obtain ⟨j, hj, rfl⟩ := List.mem_iff_getElem.1 hx
      exact (h j _ (List.getElem?_eq_getElem hj)).2.2.2
  · rintro ⟨⟨h1, h2⟩, h3⟩
    have mono := ascT_le h1
    refine ⟨Nat.le_trans (mono _ (Nat.le_refl _) 0 (Nat.zero_le _)) h2, fun k x hx => ?_⟩
    have hk := (List.getElem?_eq_some_iff.1 hx).1
    have e := hiT_succ (bt := bt) hx
    refine ⟨?_, ?_, ?_, h3 x (List.mem_of_getElem? hx)⟩
    · rw [← e]; exact Nat.le_trans (mono _ (Nat.le_refl _) _ (by omega)) h2
    · rw [← e]; exact mono (k + 1) (by omega) 0 (Nat.zero_le _)
    · intro y h0 hy
      have e2 := hiT_succ (bt := bt) hy
      rw [← e, ← e2, show k - 1 + 1 = k by omega]
      exact h1 k hk
theorem stOk_iff (term vote base bt : Nat) (snap : ByteArray) (L : List En) : stOk term vote base bt snap L ↔ term ≤ 4611686018427387903 ∧ vote ≤ 4611686018427387903 ∧ baseOk base bt snap ∧ entsOk base L ∧ termsOk term bt L := by
  have h := ents_terms term bt L
  unfold stOk baseOk entsOk
  constructor
  · rintro ⟨a1, a2, a3, a4, a5, a6, a7, a8, a9⟩
    obtain ⟨b1, b2⟩ := h.1 ⟨a7, a9⟩
    exact ⟨a1, a2, ⟨a8, a3, a6⟩, ⟨a4, a5, b2⟩, b1⟩
  · rintro ⟨a1, a2, ⟨a8, a3, a6⟩, ⟨a4, a5, b2⟩, b1⟩
    obtain ⟨a7, a9⟩ := h.2 ⟨b1, b2⟩
    exact ⟨a1, a2, a3, a4, a5, a6, a7, a8, a9⟩
end Go.Proofs.YtjbhnkigbobhiaaDoor
