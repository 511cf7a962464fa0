/- Ask: the program's. -/
import Derived.Test.YtfidgnhinllhlaaNg
import Derived.Test.YtfidgnhinllhlaaVm
namespace Go.Proofs.Ytfidgnhinllhlaa
open Go.RowKit Go.Maps

/-- A lock of one's own of a key. -/
def ownH (t : Tx) (key : ByteArray) (x : Ho) : Bool := decide (x.t = t) && decide (x.key = key)
theorem own_iff {t : Tx} {key : ByteArray} {x : Ho} : ownH t key x = true ↔ x.t = t ∧ x.key = key := by simp [ownH]
theorem own_not {t : Tx} {key : ByteArray} {x : Ho} : ownH t key x = false ↔ ¬ (x.t = t ∧ x.key = key) := by rw [← own_iff]; simp
theorem idxN_none {t : Tx} {key : ByteArray} : ∀ (L : List Ho) (i : Nat), (∀ x ∈ L, ownH t key x = false) → idxH t key i L = none
  | [], _, _ => rfl
  | x :: r, i, h => by rw [idxH, if_neg (own_not.1 (h x (by simp)))]; exact idxN_none r _ fun y hy => h y (by simp [hy])
theorem idxN_at {t : Tx} {key : ByteArray} : ∀ (L : List Ho) (i j : Nat) (x : Ho), L[j]? = some x → ownH t key x = true → (∀ k, k < j → ∀ y : Ho, L[k]? = some y → ownH t key y = false) → idxH t key i L = some (i + j)
  | [], _, j, _, h, _, _ => by simp at h
  | z :: r, i, 0, x, h, hx, _ => by
    obtain rfl : z = x := by simpa using h
    rw [idxH, if_pos (own_iff.1 hx)]; rfl
  | z :: r, i, j + 1, x, h, hx, hl => by
    rw [idxH, if_neg (own_not.1 (hl 0 (by omega) z rfl)), idxN_at r (i + 1) j x (by simpa using h) hx fun k hk y hy => hl (k + 1) (by omega) y (by simpa using hy)]
    rw [Nat.add_assoc, Nat.add_comm 1 j]
theorem raise_at {t : Tx} {key : ByteArray} : ∀ (L : List Ho) (j : Nat) (x : Ho), L[j]? = some x → ownH t key x = true → (∀ k, k < j → ∀ y : Ho, L[k]? = some y → ownH t key y = false) → raiseH t key L = L.set j ⟨x.key, x.t, true⟩
  | [], j, _, h, _, _ => by simp at h
  | z :: r, 0, x, h, hx, _ => by
    obtain rfl : z = x := by simpa using h
    rw [raiseH, if_pos (own_iff.1 hx)]; rfl
  | z :: r, j + 1, x, h, hx, hl => by
    rw [raiseH, if_neg (own_not.1 (hl 0 (by omega) z rfl)), raise_at r j x (by simpa using h) hx fun k hk y hy => hl (k + 1) (by omega) y (by simpa using hy)]
    rfl
theorem idx_some {t : Tx} {key : ByteArray} {L : List Ho} {x : Ho} (hx : x ∈ L) (h : ownH t key x = true) : ∀ i, ∃ j, idxH t key i L = some j := by
  induction L with
  | nil => simp at hx
  | cons z r ih =>
    intro i
    rw [idxH]
    by_cases hz : z.t = t ∧ z.key = key
    · exact ⟨i, if_pos hz⟩
    · rw [if_neg hz]
      rcases List.mem_cons.1 hx with e | e
      · subst e; exact absurd (own_iff.1 h) hz
      · exact ih e (i + 1)
section
variable {L : List Ho} {t : Tx} {key : ByteArray} {wr : Bool} {firm out : List Tx}
theorem ask_had (h : hadH L (idxH t key 0 L) wr = true) : askH L t key wr firm = (L, [], 0) := by unfold askH; rw [if_pos h]
theorem ask_busy (h : hadH L (idxH t key 0 L) wr = false) (hw : wayH t key wr firm [] L = none) : askH L t key wr firm = (L, [], 11) := by
  unfold askH; rw [if_neg (by rw [h]; simp), hw]
theorem way_notin (hw : wayH t key wr firm [] L = some out) : amT t out = false := by
  cases h : amT t out
  · rfl
  · rcases (way_some L [] out hw).2.2 t ((amT_iff _ _).1 h) with e | ⟨e, _⟩
    · simp at e
    · exact absurd rfl e
theorem ask_raise (h : hadH L (idxH t key 0 L) wr = false) (hw : wayH t key wr firm [] L = some out) {j : Nat} {x : Ho} (hx : (restH out L)[j]? = some x) (ho : ownH t key x = true) (hl : ∀ k, k < j → ∀ y : Ho, (restH out L)[k]? = some y → ownH t key y = false) :
    askH L t key wr firm = ((restH out L).set j ⟨x.key, x.t, true⟩, out, 0) := by
  have e := left_is (key := key) (way_notin hw) L 0
  obtain ⟨i, hi⟩ := idx_some (t := t) (key := key) (List.mem_filter.1 (List.mem_of_getElem? hx)).1 ho 0
  rw [raise_at _ j x hx ho hl, hi] at e
  rw [hi] at h
  unfold askH
  rw [hi, if_neg (by rw [h]; simp), hw]
  simp only [e, Option.isSome_some, ↓reduceIte]
theorem ask_not (h : hadH L (idxH t key 0 L) wr = false) (hw : wayH t key wr firm [] L = some out) (hn : ∀ x ∈ restH out L, ownH t key x = false) :
    askH L t key wr firm = if 48 ≤ (restH out L).length then (L, [], 5) else (restH out L ++ [⟨key, t, wr⟩], out, 0) := by
  have hi : idxH t key 0 L = none := idxN_none L 0 fun x hx => by
    cases ho : ownH t key x
    · rfl
    · rw [← hn x (List.mem_filter.2 ⟨hx, by rw [(own_iff.1 ho).1, way_notin hw]; rfl⟩)]; exact ho.symm
  rw [hi] at h
  unfold askH
  rw [hi, if_neg (by rw [h]; simp), hw]
  simp only [left_none, Bool.false_eq_true, ↓reduceIte]
end
theorem restN_len (out : List Tx) (L : List Ho) : (restH out L).length ≤ L.length := List.length_filter_le _ _
theorem rest_small {out : List Tx} {L : List Ho} (h : smallH L) : smallH (restH out L) := fun x hx => h x (List.mem_filter.1 hx).1
/-- One cell of one element stored. -/
theorem Hd.put1 {α : Type} {k bs n g : Nat} {f : α → List Value} {w : World} {C : List α} {T E : TypeId} {z : Value} (R : RowT T E k bs z f) (h : Hd E k f w g n C) {i : Nat} {x y : α} (hx : C[i]? = some x) {o : Nat} {u : Value} (hu : (f y)[o]? = some u) (hr : ∀ t, t ≠ o → (f y)[t]? = (f x)[t]?) : Hd E k f (w.setCell ⟨g, i * k + o, none⟩ u) g n (C.set i y) := by
  have hle := h.le
  have hi := (List.getElem?_eq_some_iff.1 hx).1
  have ho := (List.getElem?_eq_some_iff.1 hu).1
  rw [R.len] at ho
  have hin : i * k + k ≤ n * k := by rw [show i * k + k = (i + 1) * k by rw [Nat.add_mul]; omega]; exact Nat.mul_le_mul_right k (by omega)
  refine ⟨fun j x' hx' t u' hu' => ?_, by rw [List.length_set]; exact hle, by simpa using h.lt, hd_setCell h.ty _ _⟩
  have htl := (List.getElem?_eq_some_iff.1 hu').1
  rw [R.len] at htl
  rw [List.getElem?_set] at hx'
  show (w.setCells g (i * k + o) [u]).cell? _ = _
  by_cases e : i = j
  · subst e
    rw [if_pos rfl, if_pos hi] at hx'
    obtain rfl : y = x' := Option.some.inj hx'
    by_cases hto : t = o
    · subst hto
      have := World.cell?_setCells_in g [u] (i * k + t) w (fun a ha => h.has (by simp at ha; omega)) 0 (by simp)
      simp only [Nat.add_zero] at this
      rw [this]
      rw [hu] at hu'; rw [← hu']; rfl
    · rw [World.cell?_setCells_out g _ _ _ _ (fun _ _ => by simp only [List.length_singleton]; omega)]
      exact h.c i x hx t u' (by rw [← hr t hto]; exact hu')
  · rw [if_neg e] at hx'
    rw [World.cell?_setCells_out g _ _ _ _ (fun _ _ => by
      rcases Nat.lt_or_gt_of_ne e with h1 | h1
      · right
        have : (i + 1) * k ≤ j * k := Nat.mul_le_mul_right k h1
        rw [Nat.add_mul, Nat.one_mul] at this
        simp only [List.length_singleton]; omega
      · left
        have : (j + 1) * k ≤ i * k := Nat.mul_le_mul_right k h1
        rw [Nat.add_mul, Nat.one_mul] at this
        simp only; omega)]
    exact h.c j x' hx' t u' hu'
theorem ask2_run (p1 p2 p3 : Value) (x : Ho) (w : World) : (callFunc 26 (#[.agg #[.string x.key, .int .u64 (x.t.age : Nat), .int .u64 (x.t.id : Nat), .bool x.wr]] ++ #[p1, p2, p3])).run Try.prog w = .ok (.enter 26 (#[.agg #[.string x.key, .int .u64 (x.t.age : Nat), .int .u64 (x.t.id : Nat), .bool x.wr]] ++ #[p1, p2, p3])) w := by kernel_rfl
end Go.Proofs.Ytfidgnhinllhlaa
