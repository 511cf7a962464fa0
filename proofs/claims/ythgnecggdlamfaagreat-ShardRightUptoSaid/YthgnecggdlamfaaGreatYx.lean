/- Whether a shard is right, element by element. -/
import Derived.Test.YthgnecggdlamfaaGreatYs
namespace Go.Proofs.YthgnecggdlamfaaGreat
open Go.RowKit

/-- Each that is open, as the document goes through them. -/
def opA (s : Sh) : Nat → List Sop → Bool
  | _, [] => true
  | i, x :: r => decide (kixS x.t 0 s.opn = some i) && (opOk s x && opA s (i + 1) r)
def dnA (s : Sh) : Nat → List Sdn → Bool
  | _, [] => true
  | i, x :: r => decide (oixS x.t 0 s.done = some i) && dnA s (i + 1) r
def hoA (s : Sh) (L : List Ho) : Bool := L.all fun h => (knoS h.t s.opn).any fun x => !x.wd
theorem kix_first {t : Tx} : ∀ (p : List Sop) (x : Sop) (r : List Sop) (i : Nat), x.t = t → (kixS t i (p ++ x :: r) = some (i + p.length) ↔ p.all (fun y => !decide (y.t = t)) = true)
  | [], x, r, i, h => by simp [kixS, h]
  | y :: p, x, r, i, h => by
    have ih := kix_first p x r (i + 1) h
    simp only [List.cons_append, kixS, List.all_cons, List.length_cons]
    by_cases hy : y.t = t
    · simp only [hy, ↓reduceIte, decide_true, Bool.not_true, Bool.false_and, Bool.false_eq_true, iff_false]
      intro e; have := Option.some.inj e; omega
    · simp only [hy, ↓reduceIte, decide_false, Bool.not_false, Bool.true_and]
      rw [← ih, show i + 1 + p.length = i + (p.length + 1) by omega]
theorem oix_first {t : Tx} : ∀ (p : List Sdn) (x : Sdn) (r : List Sdn) (i : Nat), x.t = t → (oixS t i (p ++ x :: r) = some (i + p.length) ↔ p.all (fun y => !decide (y.t = t)) = true)
  | [], x, r, i, h => by simp [oixS, h]
  | y :: p, x, r, i, h => by
    have ih := oix_first p x r (i + 1) h
    simp only [List.cons_append, oixS, List.all_cons, List.length_cons]
    by_cases hy : y.t = t
    · simp only [hy, ↓reduceIte, decide_true, Bool.not_true, Bool.false_and, Bool.false_eq_true, iff_false]
      intro e; have := Option.some.inj e; omega
    · simp only [hy, ↓reduceIte, decide_false, Bool.not_false, Bool.true_and]
      rw [← ih, show i + 1 + p.length = i + (p.length + 1) by omega]
theorem fst_kix (s : Sh) : ∀ (r p : List Sop) (i : Nat), s.opn = p ++ r → i = p.length → opA s i r = (fstS i p r && r.all (opOk s))
  | [], p, i, _, _ => rfl
  | x :: r, p, i, h, hi => by
    have ih := fst_kix s r (p ++ [x]) (i + 1) (by rw [h]; simp) (by simp [hi])
    have h1 : decide (kixS x.t 0 s.opn = some i) = p.all fun y => !decide (y.t = x.t) := by
      have := kix_first (t := x.t) p x r 0 rfl
      rw [← h, Nat.zero_add, ← hi] at this
      rw [Bool.eq_iff_iff, decide_eq_true_iff]; exact this
    rw [opA, ih, h1, fstS, List.all_cons]
    cases p.all fun y => !decide (y.t = x.t) <;> cases opOk s x <;> cases fstS (i + 1) (p ++ [x]) r <;> simp
theorem fst_oix (s : Sh) : ∀ (r p : List Sdn) (i : Nat), s.done = p ++ r → i = p.length → dnA s i r = fstD p r
  | [], p, i, _, _ => rfl
  | x :: r, p, i, h, hi => by
    have ih := fst_oix s r (p ++ [x]) (i + 1) (by rw [h]; simp) (by simp [hi])
    have h1 : decide (oixS x.t 0 s.done = some i) = p.all fun y => !decide (y.t = x.t) := by
      have := oix_first (t := x.t) p x r 0 rfl
      rw [← h, Nat.zero_add, ← hi] at this
      rw [Bool.eq_iff_iff, decide_eq_true_iff]; exact this
    rw [dnA, ih, h1, fstD]
theorem rightS_by (s : Sh) : rightS s = (rightB s.rows && (rightH s.holds && (decide (s.opn.length + s.done.length ≤ 64) && (decide (keysN s [] ≤ 32) && (opA s 0 s.opn && (dnA s 0 s.done && hoA s s.holds)))))) := by
  unfold rightS
  rw [fst_kix s s.opn [] 0 rfl rfl, fst_oix s s.done [] 0 rfl rfl]
  unfold hoA
  cases fstS 0 [] s.opn <;> simp
theorem opA_at {s : Sh} {L : List Sop} {k : Nat} {x : Sop} (hx : L[k]? = some x) : opA s k (L.drop k) = (decide (kixS x.t 0 s.opn = some k) && (opOk s x && opA s (k + 1) (L.drop (k + 1)))) := by
  obtain ⟨hk, rfl⟩ := List.getElem?_eq_some_iff.1 hx
  rw [List.drop_eq_getElem_cons hk]; rfl
theorem dnA_at {s : Sh} {L : List Sdn} {k : Nat} {x : Sdn} (hx : L[k]? = some x) : dnA s k (L.drop k) = (decide (oixS x.t 0 s.done = some k) && dnA s (k + 1) (L.drop (k + 1))) := by
  obtain ⟨hk, rfl⟩ := List.getElem?_eq_some_iff.1 hx
  rw [List.drop_eq_getElem_cons hk]; rfl
theorem hoA_at {s : Sh} {L : List Ho} {k : Nat} {x : Ho} (hx : L[k]? = some x) : hoA s (L.drop k) = ((knoS x.t s.opn).any (fun x => !x.wd) && hoA s (L.drop (k + 1))) := by
  obtain ⟨hk, rfl⟩ := List.getElem?_eq_some_iff.1 hx
  rw [List.drop_eq_getElem_cons hk]; rfl
theorem kix_is {t : Tx} {O : List Sop} : (kixS t 0 O = none ∧ knoS t O = none) ∨ ∃ j x, kixS t 0 O = some j ∧ O[j]? = some x ∧ knoS t O = some x := by
  rcases kix_kno t O 0 with h | ⟨j, x, h1, h2, h3⟩
  · exact .inl h
  · exact .inr ⟨j, x, by rw [h1, Nat.zero_add], h2, h3⟩
theorem oix_is {t : Tx} {O : List Sdn} : (oixS t 0 O = none ∧ ovrS t O = none) ∨ ∃ j x, oixS t 0 O = some j ∧ O[j]? = some x ∧ ovrS t O = some x.cm := by
  rcases oix_ovr t O 0 with h | ⟨j, x, h1, h2, h3⟩
  · exact .inl h
  · exact .inr ⟨j, x, by rw [h1, Nat.zero_add], h2, h3⟩
end Go.Proofs.YthgnecggdlamfaaGreat
