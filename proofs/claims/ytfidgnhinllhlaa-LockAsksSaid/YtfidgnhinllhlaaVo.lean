/- Layer 12's laws in plain words: lists stay right; who is given a lock has it; others keep theirs. -/
import Derived.Test.YtfidgnhinllhlaaVm
namespace Go.Proofs.Ytfidgnhinllhlaa

theorem hasH_iff (t : Tx) (key : ByteArray) (wr : Bool) : ∀ L, hasH t key wr L = true ↔ ∃ x ∈ L, x.t = t ∧ x.key = key ∧ (x.wr || !wr) = true
  | [] => by simp [hasH]
  | x :: r => by
    simp only [hasH, Bool.or_eq_true, Bool.and_eq_true, decide_eq_true_eq, hasH_iff t key wr r, List.mem_cons]
    constructor
    · rintro (⟨h1, h2, h3⟩ | ⟨y, h1, h2⟩)
      · exact ⟨x, .inl rfl, h1, h2, h3⟩
      · exact ⟨y, .inr h1, h2⟩
    · rintro ⟨y, h1 | h1, h2, h3, h4⟩
      · subst h1; exact .inl ⟨h2, h3, h4⟩
      · exact .inr ⟨y, h1, h2, h3, h4⟩
theorem mem_rest {out : List Tx} {L : List Ho} {x : Ho} : x ∈ restH out L ↔ x ∈ L ∧ x.t ∉ out := by
  unfold restH
  rw [List.mem_filter, ← amT_iff x.t out]
  simp
theorem mem_raise {t : Tx} {key : ByteArray} {y : Ho} : ∀ {L : List Ho}, y ∈ raiseH t key L → ∃ z ∈ L, z.key = y.key ∧ z.t = y.t ∧ (y = z ∨ (y.key = key ∧ y.t = t))
  | x :: r, h => by
    simp only [raiseH] at h
    by_cases ho : x.t = t ∧ x.key = key
    · rw [if_pos ho] at h
      rcases List.mem_cons.1 h with e | e
      · subst e; exact ⟨x, by simp, rfl, rfl, .inr ⟨ho.2, ho.1⟩⟩
      · exact ⟨y, by simp [e], rfl, rfl, .inl rfl⟩
    · rw [if_neg ho] at h
      rcases List.mem_cons.1 h with e | e
      · subst e; exact ⟨y, by simp, rfl, rfl, .inl rfl⟩
      · obtain ⟨z, h1, h2⟩ := mem_raise e
        exact ⟨z, by simp [h1], h2⟩
theorem raise_mem {t : Tx} {key : ByteArray} {z : Ho} : ∀ {L : List Ho}, z ∈ L → z ∈ raiseH t key L ∨ (z.t = t ∧ z.key = key ∧ (⟨key, t, true⟩ : Ho) ∈ raiseH t key L)
  | x :: r, h => by
    simp only [raiseH]
    by_cases ho : x.t = t ∧ x.key = key
    · rw [if_pos ho]
      rcases List.mem_cons.1 h with e | e
      · subst e; exact .inr ⟨ho.1, ho.2, by simp [ho.1, ho.2]⟩
      · exact .inl (by simp [e])
    · rw [if_neg ho]
      rcases List.mem_cons.1 h with e | e
      · exact .inl (by simp [e])
      · rcases raise_mem (t := t) (key := key) e with h1 | ⟨h1, h2, h3⟩
        · exact .inl (by simp [h1])
        · exact .inr ⟨h1, h2, by simp [h3]⟩
/-- A Write lock of a key stands alone; nobody has two of one key. -/
def goodH (L : List Ho) : Prop := L.Pairwise fun x y => x.key = y.key → x.t ≠ y.t ∧ x.wr = false ∧ y.wr = false
theorem good_nil : goodH [] := List.Pairwise.nil
theorem good_drop {t : Tx} {L : List Ho} (h : goodH L) : goodH (dropH t L) := h.sublist List.filter_sublist
theorem good_rest {out : List Tx} {L : List Ho} (h : goodH L) : goodH (restH out L) := h.sublist List.filter_sublist
theorem good_raise {t : Tx} {key : ByteArray} : ∀ {M : List Ho}, goodH M → (∀ y ∈ M, y.key = key → y.t = t) → goodH (raiseH t key M)
  | [], _, _ => List.Pairwise.nil
  | x :: r, h, hn => by
    unfold goodH at h ⊢
    rw [List.pairwise_cons] at h
    simp only [raiseH]
    by_cases ho : x.t = t ∧ x.key = key
    · rw [if_pos ho, List.pairwise_cons]
      refine ⟨fun y hy he => ?_, h.2⟩
      have h1 := (h.1 y hy he).1
      have h2 := hn y (by simp [hy]) (he.symm.trans ho.2)
      exact absurd (ho.1.trans h2.symm) h1
    · rw [if_neg ho, List.pairwise_cons]
      refine ⟨fun y hy he => ?_, good_raise h.2 (fun y hy => hn y (by simp [hy]))⟩
      obtain ⟨z, h1, h2, h3, h4⟩ := mem_raise hy
      rcases h4 with e | ⟨e, _⟩
      · subst e; exact h.1 y h1 he
      · exact absurd ⟨hn x (by simp) (he.trans e), he.trans e⟩ ho
theorem good_add {t : Tx} {key : ByteArray} {wr : Bool} {M : List Ho} (h : goodH M) (hn : ∀ y ∈ M, y.key = key → y.t ≠ t ∧ y.wr = false ∧ wr = false) : goodH (M ++ [⟨key, t, wr⟩]) := by
  unfold goodH at h ⊢
  rw [List.pairwise_append]
  refine ⟨h, by simp, fun x hx y hy he => ?_⟩
  obtain rfl : y = ⟨key, t, wr⟩ := by simpa using hy
  exact hn x hx he
theorem idx_at {t : Tx} {key : ByteArray} : ∀ (L : List Ho) (i j : Nat), idxH t key i L = some j → ∃ x, L[j - i]? = some x ∧ x.t = t ∧ x.key = key
  | [], i, j, h => by simp [idxH] at h
  | x :: r, i, j, h => by
    simp only [idxH] at h
    split at h
    · rename_i ho
      obtain rfl : i = j := by simpa using h
      exact ⟨x, by simp, ho⟩
    · obtain ⟨y, h1, h2⟩ := idx_at r _ _ h
      have hge := idx_ge t key r _ _ h
      refine ⟨y, ?_, h2⟩
      rw [show j - i = (j - (i + 1)) + 1 by omega]; simpa using h1
theorem idx_none {t : Tx} {key : ByteArray} : ∀ (L : List Ho) (i : Nat), idxH t key i L = none → ∀ x ∈ L, ¬ (x.t = t ∧ x.key = key)
  | [], i, _ => by simp
  | x :: r, i, h => by
    simp only [idxH] at h
    split at h
    · cases h
    · rename_i ho
      intro y hy
      rcases List.mem_cons.1 hy with e | e
      · rw [e]; exact ho
      · exact idx_none r _ h y e
/-- What Ask answers: the locks as they were and an error; the same, for one has it; or those that are left, one's own raised or laid behind. -/
theorem ask_cases (L : List Ho) (t : Tx) (key : ByteArray) (wr : Bool) (firm : List Tx) :
    (∃ e, e ≠ 0 ∧ askH L t key wr firm = (L, [], e)) ∨ (askH L t key wr firm = (L, [], 0) ∧ ∃ x ∈ L, x.t = t ∧ x.key = key ∧ (x.wr || !wr) = true) ∨
    (∃ out, wayH t key wr firm [] L = some out ∧
      ((wr = true ∧ (∃ x ∈ L, x.t = t ∧ x.key = key ∧ x.t ∉ out) ∧ askH L t key wr firm = (raiseH t key (restH out L), out, 0)) ∨ ((∀ x ∈ L, ¬ (x.t = t ∧ x.key = key)) ∧ askH L t key wr firm = (restH out L ++ [⟨key, t, wr⟩], out, 0)))) := by
  unfold askH
  by_cases hh : hadH L (idxH t key 0 L) wr = true
  · rw [if_pos hh]
    refine .inr (.inl ⟨rfl, ?_⟩)
    unfold hadH at hh
    rcases hi : idxH t key 0 L with _ | j
    · rw [hi] at hh; cases hh
    · obtain ⟨x, h1, h2, h3⟩ := idx_at L 0 j hi
      rw [Nat.sub_zero] at h1
      rw [hi] at hh
      simp only [h1] at hh
      exact ⟨x, List.mem_of_getElem? h1, h2, h3, hh⟩
  rw [if_neg hh]
  rcases hw : wayH t key wr firm [] L with _ | out
  · exact .inl ⟨11, by decide, rfl⟩
  have ht : amT t out = false := by
    rcases h : amT t out with _ | _
    · rfl
    · rcases (way_some L [] out hw).2.2 t ((amT_iff _ _).1 h) with e | e
      · simp at e
      · exact absurd rfl e.1
  have hto : t ∉ out := fun h => by rw [(amT_iff _ _).2 h] at ht; cases ht
  simp only [left_is ht L 0]
  rcases hi : idxH t key 0 L with _ | j
  · have hno := idx_none L 0 hi
    have hr : raiseH t key (restH out L) = restH out L := by
      have : ∀ M : List Ho, (∀ x ∈ M, ¬ (x.t = t ∧ x.key = key)) → raiseH t key M = M := by
        intro M
        induction M with
        | nil => intro _; rfl
        | cons y r ih => intro h; simp only [raiseH]; rw [if_neg (h y (by simp)), ih (fun x hx => h x (by simp [hx]))]
      exact this _ (fun x hx => hno x (mem_rest.1 hx).1)
    simp only [hr, Option.isSome_none, Bool.false_eq_true, if_false]
    by_cases h48 : 48 ≤ (restH out L).length
    · rw [if_pos h48]; exact .inl ⟨5, by decide, rfl⟩
    · rw [if_neg h48]; exact .inr (.inr ⟨out, rfl, .inr ⟨hno, rfl⟩⟩)
  · obtain ⟨x, h1, h2, h3⟩ := idx_at L 0 j hi
    rw [Nat.sub_zero] at h1
    have hwr : wr = true := by
      unfold hadH at hh
      rw [hi] at hh
      simp only [h1] at hh
      cases wr
      · simp at hh
      · rfl
    simp only [Option.isSome_some, if_true]
    exact .inr (.inr ⟨out, rfl, .inl ⟨hwr, ⟨x, List.mem_of_getElem? h1, h2, h3, by rw [h2]; exact hto⟩, rfl⟩⟩)
/-- Lists stay right. -/
theorem ask_good {L : List Ho} (t : Tx) (key : ByteArray) (wr : Bool) (firm : List Tx) (h : goodH L) : goodH (askH L t key wr firm).1 := by
  rcases ask_cases L t key wr firm with ⟨e, _, e1⟩ | ⟨e1, _⟩ | ⟨out, hw, ⟨hwr, _, e1⟩ | ⟨hno, e1⟩⟩
  · rw [e1]; exact h
  · rw [e1]; exact h
  · rw [e1]
    refine good_raise (good_rest h) (fun y hy hk => ?_)
    obtain ⟨h1, h2⟩ := mem_rest.1 hy
    refine Decidable.byContradiction fun hne => h2 ((way_some L [] out hw).1 y h1 ?_)
    simp [inW, hk, hne, hwr]
  · rw [e1]
    refine good_add (good_rest h) (fun y hy hk => ?_)
    obtain ⟨h1, h2⟩ := mem_rest.1 hy
    have hne : y.t ≠ t := fun e => hno y h1 ⟨e, hk⟩
    refine ⟨hne, ?_⟩
    rcases hyw : y.wr with _ | _ <;> rcases hww : wr with _ | _
    · exact ⟨rfl, rfl⟩
    all_goals exact absurd ((way_some L [] out hw).1 y h1 (by simp [inW, hk, hne, hyw, hww])) h2
end Go.Proofs.Ytfidgnhinllhlaa
