/- One put, step by step: the mathematics of Do. -/
import Derived.Test.YtifdgjmbecilhaaDoorUk
namespace Go.Proofs.YtifdgjmbecilhaaDoor

theorem snoc_ind {α : Type} {p : List α → Prop} (L : List α) (h0 : p []) (h1 : ∀ M x, p M → p (M ++ [x])) : p L := by
  have h : ∀ n, p (L.take n) := fun n => by
    induction n with
    | zero => simpa using h0
    | succ n ih =>
      rcases Nat.lt_or_ge n L.length with hn | hn
      · rw [List.take_succ_eq_append_getElem hn]; exact h1 _ _ ih
      · rw [List.take_of_length_le (by omega)]; rw [List.take_of_length_le hn] at ih; exact ih
  have := h L.length
  rwa [List.take_length] at this
/-- What one row makes of what is laid, and of whether the put is done. -/
def stepF (y : Ro) (is gone : Bool) (s : List Ro × Bool) (x : Ro) : List Ro × Bool :=
  if x.key = y.key then (if gone then s else if s.2 then (s.1 ++ [x], s.2) else (s.1 ++ [y], true))
  else if !is && (!s.2 && lessB y.key x.key) then (s.1 ++ [y] ++ [x], true) else (s.1 ++ [x], s.2)
def foldF (y : Ro) (is gone : Bool) (L : List Ro) : List Ro × Bool := L.foldl (stepF y is gone) ([], gone)
def endF (y : Ro) (s : List Ro × Bool) : List Ro := if s.2 then s.1 else s.1 ++ [y]
theorem foldF_snoc (y : Ro) (is gone : Bool) (L : List Ro) (x : Ro) : foldF y is gone (L ++ [x]) = stepF y is gone (foldF y is gone L) x := by simp [foldF]
theorem delR_snoc (k : ByteArray) (x : Ro) : ∀ M, delR k (M ++ [x]) = delR k M ++ if x.key = k then [] else [x]
  | [] => by simp [delR]
  | z :: r => by
    simp only [List.cons_append, delR, delR_snoc k x r]
    split <;> simp
theorem getR_snoc (k : ByteArray) (x : Ro) : ∀ M, getR k (M ++ [x]) = if (getR k M).isSome then getR k M else if x.key = k then some x else none
  | [] => by simp [getR]
  | z :: r => by
    simp only [List.cons_append, getR]
    split
    · rfl
    · exact getR_snoc k x r
theorem setR_none (y : Ro) : ∀ M, getR y.key M = none → setR y M = M
  | [], _ => rfl
  | z :: r, h => by
    have hz := (getR_none_iff y.key (z :: r)).1 h z (by simp)
    have hr : getR y.key r = none := by simpa [getR, hz] using h
    simp only [setR, if_neg hz, setR_none y r hr]
theorem setR_snoc (y x : Ro) : ∀ M, setR y (M ++ [x]) = if (getR y.key M).isSome then setR y M ++ [x] else M ++ [if x.key = y.key then y else x]
  | [] => by simp only [List.nil_append, setR, getR]; split <;> simp
  | z :: r => by
    simp only [List.cons_append, setR, getR]
    by_cases h : z.key = y.key
    · simp [h]
    · simp only [if_neg h, setR_snoc y x r]
      split <;> simp
theorem insR_any (y : Ro) : ∀ M, (M.any fun x => lessB y.key x.key) = false → insR y M = M ++ [y]
  | [], _ => rfl
  | z :: r, h => by
    simp only [List.any_cons, Bool.or_eq_false_iff] at h
    simp only [insR, h.1, insR_any y r h.2]; simp
theorem insR_snoc (y x : Ro) : ∀ M, (M.any fun x => lessB y.key x.key) = true → insR y (M ++ [x]) = insR y M ++ [x]
  | [], h => by simp at h
  | z :: r, h => by
    simp only [List.cons_append, insR]
    split
    · simp
    · rename_i hz
      simp only [List.any_cons, Bool.or_eq_true] at h
      rcases h with h | h
      · exact absurd h hz
      · rw [insR_snoc y x r h]; simp
/-- Gone. -/
theorem fold_gone (y : Ro) (is : Bool) (L : List Ro) : foldF y is true L = (delR y.key L, true) := by
  refine snoc_ind (p := fun L => foldF y is true L = (delR y.key L, true)) L rfl fun M x ih => ?_
  rw [foldF_snoc, ih, delR_snoc]
  unfold stepF
  by_cases h : x.key = y.key
  · simp [h]
  · simp [h]
/-- Found, and set. -/
theorem fold_set (y : Ro) (L : List Ro) : foldF y true false L = (setR y L, (getR y.key L).isSome) := by
  refine snoc_ind (p := fun L => foldF y true false L = (setR y L, (getR y.key L).isSome)) L rfl fun M x ih => ?_
  rw [foldF_snoc, ih, setR_snoc, getR_snoc]
  unfold stepF
  by_cases h : x.key = y.key
  · rcases hg : getR y.key M with _ | z
    · simp [h, setR_none y M hg]
    · simp [h]
  · rcases hg : getR y.key M with _ | z
    · simp [h, setR_none y M hg]
    · simp [h]
/-- Not found, and put in its place. -/
theorem fold_ins (y : Ro) (L : List Ro) : (∀ x ∈ L, x.key ≠ y.key) → foldF y false false L = (if (L.any fun x => lessB y.key x.key) then insR y L else L, L.any fun x => lessB y.key x.key) := by
  refine snoc_ind (p := fun L => (∀ x ∈ L, x.key ≠ y.key) → foldF y false false L = (if (L.any fun x => lessB y.key x.key) then insR y L else L, L.any fun x => lessB y.key x.key)) L (fun _ => rfl) fun M x ih h => ?_
  have hx : x.key ≠ y.key := h x (by simp)
  rw [foldF_snoc, ih (fun z hz => h z (by simp [hz]))]
  unfold stepF
  rw [if_neg hx]
  rcases ha : M.any fun x => lessB y.key x.key with _ | _
  · rcases hl : lessB y.key x.key with _ | _
    · simp [ha, hl]
    · have h1 : insR y (M ++ [x]) = M ++ [y] ++ [x] := by
        clear ih h
        induction M with
        | nil => simp [insR, hl]
        | cons z r ihr =>
          simp only [List.any_cons, Bool.or_eq_false_iff] at ha
          simp only [List.cons_append, insR, ha.1]
          simp [ihr ha.2]
      simp [ha, hl, h1]
  · simp [ha, insR_snoc y x M ha]
/-- What Do answers, by steps. -/
theorem do_steps (L : List Ro) (p : Pu) (ver : Nat) (h0 : fitsX [p] = 0) (h1 : ¬ ((getR p.key L).isSome = false ∧ p.gone = false ∧ 32 ≤ L.length)) :
    doR L p ver = (endF ⟨p.key, p.val, ver⟩ (foldF ⟨p.key, p.val, ver⟩ (getR p.key L).isSome p.gone L), 0) := by
  unfold doR
  rw [if_neg (by omega)]
  rcases hg : p.gone with _ | _
  · rw [if_neg (by decide)]
    rcases hs : (getR p.key L).isSome with _ | _
    · rw [if_neg (by decide), if_neg (fun h => h1 ⟨hs, hg, h⟩), fold_ins _ _ ((getR_none_iff p.key L).1 (by simpa using hs))]
      rcases ha : L.any fun x => lessB p.key x.key with _ | _
      · rw [insR_any _ _ ha]; simp [endF]
      · simp [endF]
    · rw [if_pos rfl, fold_set]; simp [endF, hs]
  · rw [if_pos rfl, fold_gone]; simp [endF]
theorem stepF_len (y : Ro) (is gone : Bool) (s : List Ro × Bool) (x : Ro) : (stepF y is gone s x).1.length + (if (stepF y is gone s x).2 then 0 else 1) ≤ s.1.length + (if s.2 then 0 else 1) + 1 := by
  unfold stepF
  rcases s with ⟨O, d⟩
  rcases d with _ | _ <;> (repeat' split) <;> simp_all <;> omega
theorem foldF_len (y : Ro) (is gone : Bool) (L : List Ro) : (foldF y is gone L).1.length + (if (foldF y is gone L).2 then 0 else 1) ≤ L.length + (if gone then 0 else 1) := by
  refine snoc_ind (p := fun L => (foldF y is gone L).1.length + (if (foldF y is gone L).2 then 0 else 1) ≤ L.length + (if gone then 0 else 1)) L (by simp only [foldF, List.foldl_nil, List.length_nil]; exact Nat.le_refl _) fun M x ih => ?_
  rw [foldF_snoc]
  have := stepF_len y is gone (foldF y is gone M) x
  rw [List.length_append, List.length_singleton]
  omega
end Go.Proofs.YtifdgjmbecilhaaDoor
