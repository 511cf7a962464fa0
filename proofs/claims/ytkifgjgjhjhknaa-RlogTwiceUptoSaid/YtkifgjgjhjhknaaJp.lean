/- Joining in plain words: what was joined is had; joined once more it changes nothing. -/
import Derived.Test.YtkifgjgjhjhknaaLn
namespace Go.Proofs.Ytkifgjgjhjhknaa
open Go.RowKit

theorem hasB_iff {base bt i t : Nat} {L : List En} : hasB base bt L i t = true ↔ (i = base ∧ bt = t) ∨ (base < i ∧ ∃ x, L[i - base - 1]? = some x ∧ x.t = t) := by
  unfold hasB tAt
  by_cases h0 : i = base
  · rw [if_pos h0]; simp [h0]
  rw [if_neg h0]
  by_cases h1 : i < base
  · rw [if_pos h1]; simp [h0]; omega
  rw [if_neg h1]
  cases h2 : L[i - base - 1]? with
  | none => simp [h0]
  | some x => simp [h0]; omega
theorem hasB_app {base bt i t q : Nat} {L X : List En} (h : hasB base bt L i t = true) (hi : i ≤ base + q) : hasB base bt (L.take q ++ X) i t = true := by
  rcases hasB_iff.1 h with ⟨h1, h2⟩ | ⟨h1, x, hx, h2⟩
  · exact hasB_iff.2 (.inl ⟨h1, h2⟩)
  · refine hasB_iff.2 (.inr ⟨h1, x, ?_, h2⟩)
    have hlt := (List.getElem?_eq_some_iff.1 hx).1
    rw [List.getElem?_append_left (by rw [List.length_take]; omega), List.getElem?_take_of_lt (by omega)]; exact hx
theorem joined_has {g : Lg} {p t : Nat} {E : List En} (h : hasB g.base g.bt g.L p t = true) (hp : g.base ≤ p) : ∀ j x, E[j]? = some x → hasB g.base g.bt (joinL g p E) (p + 1 + j) x.t = true := by
  intro j x hx
  have hj := (List.getElem?_eq_some_iff.1 hx).1
  have hk := knF_le g.base g.bt g.L E p
  have htop := knF_top (E := E) h
  unfold joinL
  split
  · rename_i hlt
    by_cases hjk : j < knF g.base g.bt g.L p E
    · exact hasB_app (knF_has _ _ _ E p j x hjk hx) (by omega)
    · refine hasB_iff.2 (.inr ⟨by omega, x, ?_, rfl⟩)
      have hlen : (g.L.take (p + knF g.base g.bt g.L p E - g.base)).length = p + knF g.base g.bt g.L p E - g.base := by rw [List.length_take]; omega
      rw [List.getElem?_append_right (by rw [hlen]; omega), hlen, List.getElem?_drop]
      rw [show knF g.base g.bt g.L p E + (p + 1 + j - g.base - 1 - (p + knF g.base g.bt g.L p E - g.base)) = j by omega]; exact hx
  · exact knF_has _ _ _ E p j x (by omega) hx
theorem joined_at {g : Lg} {p t : Nat} {E : List En} (h : hasB g.base g.bt g.L p t = true) : hasB g.base g.bt (joinL g p E) p t = true := by
  unfold joinL; split
  · exact hasB_app h (by omega)
  · exact h
/-- Whether and what was joined. -/
theorem joinC_no {g : Lg} {p t : Nat} {E : List En} (h : (joinC g p t E).2.2 = false) : joinC g p t E = (g, 0, false) := by
  unfold joinC at h ⊢
  split
  · rfl
  · rename_i h1
    rw [if_neg h1] at h
    split
    · rfl
    · rename_i h2
      rw [if_neg h2] at h; simp at h
theorem joinC_yes {g : Lg} {p t : Nat} {E : List En} (h : (joinC g p t E).2.2 = true) : hasB g.base g.bt g.L p t = true ∧ ¬ (1024 < (joinL g p E).length ∨ 1099511627776 < g.base + (joinL g p E).length) ∧ (joinC g p t E).1 = { g with L := joinL g p E } := by
  unfold joinC at h ⊢
  by_cases h1 : hasB g.base g.bt g.L p t = false
  · rw [if_pos h1] at h; simp at h
  · rw [if_neg h1] at h ⊢
    by_cases h2 : 1024 < (joinL g p E).length ∨ 1099511627776 < g.base + (joinL g p E).length
    · rw [if_pos h2] at h; simp at h
    · rw [if_neg h2] at h ⊢
      exact ⟨by simpa using h1, h2, rfl⟩
theorem joinC_twice {g : Lg} {p t : Nat} {E : List En} (hp : g.base ≤ p) (h : (joinC g p t E).2.2 = true) : joinC (joinC g p t E).1 p t E = ((joinC g p t E).1, 0, true) := by
  obtain ⟨h1, h2, h3⟩ := joinC_yes h
  rw [h3]
  have hkn : knF g.base g.bt (joinL g p E) p E = E.length := knF_eq E p E.length (Nat.le_refl _) (fun j x _ hx => joined_has h1 hp j x hx) (fun x hx => by have := (List.getElem?_eq_some_iff.1 hx).1; omega)
  have hat := joined_at (E := E) h1
  have hL : joinL { g with L := joinL g p E } p E = joinL g p E := by
    show (if knF g.base g.bt (joinL g p E) p E < E.length then _ else joinL g p E) = _
    rw [hkn, if_neg (Nat.lt_irrefl _)]
  unfold joinC
  rw [if_neg (by simp only; rw [hat]; simp), hL, if_neg h2]
  simp only
  rw [hkn, if_neg (Nat.lt_irrefl _)]
theorem joinG_no {g : Lg} {p t : Nat} {E : List En} (h : (joinG g p t E).2.2 = false) : joinG g p t E = (g, 0, false) := by
  unfold joinG at h ⊢
  split
  · rename_i h1; rw [if_pos h1] at h; exact joinC_no h
  · rename_i h1; rw [if_neg h1] at h; exact joinC_no h
theorem joinC_base {g : Lg} {p t : Nat} {E : List En} : (joinC g p t E).1.base = g.base ∧ (joinC g p t E).1.bt = g.bt ∧ (joinC g p t E).1.snap = g.snap := by
  unfold joinC; split
  · exact ⟨rfl, rfl, rfl⟩
  · split <;> exact ⟨rfl, rfl, rfl⟩
theorem joinG_base {g : Lg} {p t : Nat} {E : List En} : (joinG g p t E).1.base = g.base ∧ (joinG g p t E).1.bt = g.bt ∧ (joinG g p t E).1.snap = g.snap := by
  unfold joinG; split <;> exact joinC_base
theorem joinG_twice {g : Lg} {p t : Nat} {E : List En} (h : (joinG g p t E).2.2 = true) : joinG (joinG g p t E).1 p t E = ((joinG g p t E).1, 0, true) := by
  obtain ⟨hb, hbt, _⟩ := joinG_base (g := g) (p := p) (t := t) (E := E)
  by_cases h1 : p < g.base
  · have e : joinG g p t E = joinC g g.base g.bt (E.drop (g.base - p)) := by unfold joinG; rw [if_pos h1]
    have e2 : joinG (joinG g p t E).1 p t E = joinC (joinG g p t E).1 g.base g.bt (E.drop (g.base - p)) := by
      rw [joinG.eq_1 (joinG g p t E).1, if_pos (by rw [hb]; exact h1), hb, hbt]
    rw [e2, e]
    rw [e] at h
    exact joinC_twice (Nat.le_refl _) h
  · have e : joinG g p t E = joinC g p t E := by unfold joinG; rw [if_neg h1]
    have e2 : joinG (joinG g p t E).1 p t E = joinC (joinG g p t E).1 p t E := by
      rw [joinG.eq_1 (joinG g p t E).1, if_neg (by rw [hb]; exact h1)]
    rw [e2, e]
    rw [e] at h
    exact joinC_twice (by omega) h
/-- Where the index isn't below Base: what is behind it, what is ahead of it. -/
theorem joinG_hi {g : Lg} {p t : Nat} {E : List En} (hp : g.base ≤ p) (h : (joinG g p t E).2.2 = true) : p ≤ g.base + g.L.length ∧ p ≤ g.base + (joinG g p t E).1.L.length ∧ (joinG g p t E).1.L.take (p - g.base) = g.L.take (p - g.base) ∧ ∀ j x, E[j]? = some x → tAt g.base g.bt (joinG g p t E).1.L (p + 1 + j) = (x.t, true) := by
  have e : joinG g p t E = joinC g p t E := by unfold joinG; rw [if_neg (by omega)]
  rw [e] at h ⊢
  obtain ⟨h1, h2, h3⟩ := joinC_yes h
  rw [h3]
  have htop := hasB_top h1
  have hk := knF_top (E := E) h1
  have hat := hasB_top (joined_at (E := E) h1)
  refine ⟨htop, hat, ?_, fun j x hx => ?_⟩
  · show (joinL g p E).take (p - g.base) = _
    unfold joinL; split
    · rw [List.take_append_of_le_length (by rw [List.length_take]; omega), List.take_take, Nat.min_eq_left (by omega)]
    · rfl
  · rcases hasB_iff.1 (joined_has h1 hp j x hx) with ⟨h4, _⟩ | ⟨h4, y, hy, h5⟩
    · omega
    · rw [← h5]; exact tAt_in g.bt (by omega) hy
end Go.Proofs.Ytkifgjgjhjhknaa
