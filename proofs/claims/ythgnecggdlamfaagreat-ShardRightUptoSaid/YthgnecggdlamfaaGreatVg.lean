/- Layer 12's laws in plain words: lists stay right; who is given a lock has it; others keep theirs. -/
import Derived.Test.YthgnecggdlamfaaGreatVc
import Derived.Test.YthgnecggdlamfaaGreatVf
namespace Go.Proofs.YthgnecggdlamfaaGreat

theorem hasH_iff (t : Tx) (key : ByteArray) (wr : Bool) : ∀ L, hasH t key wr L = true ↔ ∃ x ∈ L, x.t = t ∧ x.key = key ∧ (x.wr || !wr) = true
  | [] => by simp [hasH]
  | x :: r => by
    simp only [hasH, Bool.or_eq_true, Bool.and_eq_true, decide_eq_true_eq, hasH_iff t key wr r, List.mem_cons]
    constructor
    · rintro (⟨h1, h2, h3⟩ | ⟨y, h1, h2⟩)
      · exact ⟨x, .inl rfl, h1, h2, h3⟩
      · exact ⟨y, .inr h1, h2⟩
    · rintro ⟨y, h1 | h1, h2, h3, h4⟩
      · subst h1; exact .inl ⟨h2, h3, h4⟩
      · exact .inr ⟨y, h1, h2, h3, h4⟩
theorem mem_rest {out : List Tx} {L : List Ho} {x : Ho} : x ∈ restH out L ↔ x ∈ L ∧ x.t ∉ out := by
  unfold restH
  rw [List.mem_filter, ← amT_iff x.t out]
  simp
theorem mem_raise {t : Tx} {key : ByteArray} {y : Ho} : ∀ {L : List Ho}, y ∈ raiseH t key L → ∃ z ∈ L, z.key = y.key ∧ z.t = y.t ∧ (y = z ∨ (y.key = key ∧ y.t = t))
  | x :: r, h => by
    simp only [raiseH] at h
    by_cases ho : x.t = t ∧ x.key = key
    · rw [if_pos ho] at h
      rcases List.mem_cons.1 h with e | e
      · subst e; exact ⟨x, by simp, rfl, rfl, .inr ⟨ho.2, ho.1⟩⟩
      · exact ⟨y, by simp [e], rfl, rfl, .inl rfl⟩
    · rw [if_neg ho] at h
      rcases List.mem_cons.1 h with e | e
      · subst e; exact ⟨y, by simp, rfl, rfl, .inl rfl⟩
      · obtain ⟨z, h1, h2⟩ := mem_raise e
        exact ⟨z, by simp [h1], h2⟩
theorem raise_mem {t : Tx} {key : ByteArray} {z : Ho} : ∀ {L : List Ho}, z ∈ L → z ∈ raiseH t key L ∨ (z.t = t ∧ z.key = key ∧ (⟨key, t, true⟩ : Ho) ∈ raiseH t key L)
  | x :: r, h => by
    simp only [raiseH]
    by_cases ho : x.t = t ∧ x.key = key
    · rw [if_pos ho]
      rcases List.mem_cons.1 h with e | e
      · subst e; exact .inr ⟨ho.1, ho.2, by simp [ho.1, ho.2]⟩
      · exact .inl (by simp [e])
    · rw [if_neg ho]
      rcases List.mem_cons.1 h with e | e
      · exact .inl (by simp [e])
      · rcases raise_mem (t := t) (key := key) e with h1 | ⟨h1, h2, h3⟩
        · exact .inl (by simp [h1])
        · exact .inr ⟨h1, h2, by simp [h3]⟩
/-- A Write lock of a key stands alone; nobody has two of one key. -/
def goodH (L : List Ho) : Prop := L.Pairwise fun x y => x.key = y.key → x.t ≠ y.t ∧ x.wr = false ∧ y.wr = false
theorem good_nil : goodH [] := List.Pairwise.nil
theorem good_drop {t : Tx} {L : List Ho} (h : goodH L) : goodH (dropH t L) := h.sublist List.filter_sublist
theorem good_rest {out : List Tx} {L : List Ho} (h : goodH L) : goodH (restH out L) := h.sublist List.filter_sublist
theorem good_raise {t : Tx} {key : ByteArray} : ∀ {M : List Ho}, goodH M → (∀ y ∈ M, y.key = key → y.t = t) → goodH (raiseH t key M)
  | [], _, _ => List.Pairwise.nil
  | x :: r, h, hn => by
    unfold goodH at h ⊢
    rw [List.pairwise_cons] at h
    simp only [raiseH]
    by_cases ho : x.t = t ∧ x.key = key
    · rw [if_pos ho, List.pairwise_cons]
      refine ⟨fun y hy he => ?_, h.2⟩
      have h1 := (h.1 y hy he).1
      have h2 := hn y (by simp [hy]) (he.symm.trans ho.2)
      exact absurd (ho.1.trans h2.symm) h1
    · rw [if_neg ho, List.pairwise_cons]
      refine ⟨fun y hy he => ?_, good_raise h.2 (fun y hy => hn y (by simp [hy]))⟩
      obtain ⟨z, h1, h2, h3, h4⟩ := mem_raise hy
      rcases h4 with e | ⟨e, _⟩
      · subst e; exact h.1 y h1 he
      · exact absurd ⟨hn x (by simp) (he.trans e), he.trans e⟩ ho
theorem good_add {t : Tx} {key : ByteArray} {wr : Bool} {M : List Ho} (h : goodH M) (hn : ∀ y ∈ M, y.key = key → y.t ≠ t ∧ y.wr = false ∧ wr = false) : goodH (M ++ [⟨key, t, wr⟩]) := by
  unfold goodH at h ⊢
  rw [List.pairwise_append]
  refine ⟨h, by simp, fun x hx y hy he => ?_⟩
  obtain rfl : y = ⟨key, t, wr⟩ := by simpa using hy
  exact hn x hx he
theorem idx_at {t : Tx} {key : ByteArray} : ∀ (L : List Ho) (i j : Nat), idxH t key i L = some j → ∃ x, L[j - i]? = some x ∧ x.t = t ∧ x.key = key
  | [], i, j, h => by simp [idxH] at h
  | x :: r, i, j, h => by
    simp only [idxH] at h
    split at h
    · rename_i ho
      obtain rfl : i = j := by simpa using h
      exact ⟨x, by simp, ho⟩
    · obtain ⟨y, h1, h2⟩ := idx_at r _ _ h
      have hge := idx_ge t key r _ _ h
      refine ⟨y, ?_, h2⟩
      rw [show j - i = (j - (i + 1)) + 1 by omega]; simpa using h1
theorem idx_none {t : Tx} {key : ByteArray} : ∀ (L : List Ho) (i : Nat), idxH t key i L = none → ∀ x ∈ L, ¬ (x.t = t ∧ x.key = key)
  | [], i, _ => by simp
  | x :: r, i, h => by
    simp only [idxH] at h
    split at h
    · cases h
    · rename_i ho
      intro y hy
      rcases List.mem_cons.1 hy with e | e
      · rw [e]; exact ho
      · exact idx_none r _ h y e
/-- What Ask answers: the locks as they were and an error; the same, for one has it; or those that are left, one's own raised or laid behind. -/
theorem ask_cases (L : List Ho) (t : Tx) (key : ByteArray) (wr : Bool) (firm : List Tx) :
    (∃ e, e ≠ 0 ∧ askH L t key wr firm = (L, [], e)) ∨ (askH L t key wr firm = (L, [], 0) ∧ ∃ x ∈ L, x.t = t ∧ x.key = key ∧ (x.wr || !wr) = true) ∨
    (∃ out, wayH t key wr firm [] L = some out ∧
      ((wr = true ∧ (∃ x ∈ L, x.t = t ∧ x.key = key ∧ x.t ∉ out) ∧ askH L t key wr firm = (raiseH t key (restH out L), out, 0)) ∨ ((∀ x ∈ L, ¬ (x.t = t ∧ x.key = key)) ∧ askH L t key wr firm = (restH out L ++ [⟨key, t, wr⟩], out, 0)))) := by
  unfold askH
  by_cases hh : hadH L (idxH t key 0 L) wr = true
  · rw [if_pos hh]
    refine .inr (.inl ⟨rfl, ?_⟩)
    unfold hadH at hh
    rcases hi : idxH t key 0 L with _ | j
    · rw [hi] at hh; cases hh
    · obtain ⟨x, h1, h2, h3⟩ := idx_at L 0 j hi
      rw [Nat.sub_zero] at h1
      rw [hi] at hh
      simp only [h1] at hh
      exact ⟨x, List.mem_of_getElem? h1, h2, h3, hh⟩
  rw [if_neg hh]
  rcases hw : wayH t key wr firm [] L with _ | out
  · exact .inl ⟨11, by decide, rfl⟩
  have ht : amT t out = false := by
    rcases h : amT t out with _ | _
    · rfl
    · rcases (way_some L [] out hw).2.2 t ((amT_iff _ _).1 h) with e | e
      · simp at e
      · exact absurd rfl e.1
  have hto : t ∉ out := fun h => by rw [(amT_iff _ _).2 h] at ht; cases ht
  simp only [left_is ht L 0]
  rcases hi : idxH t key 0 L with _ | j
  · have hno := idx_none L 0 hi
    have hr : raiseH t key (restH out L) = restH out L := by
      have : ∀ M : List Ho, (∀ x ∈ M, ¬ (x.t = t ∧ x.key = key)) → raiseH t key M = M := by
        intro M
        induction M with
        | nil => intro _; rfl
        | cons y r ih => intro h; simp only [raiseH]; rw [if_neg (h y (by simp)), ih (fun x hx => h x (by simp [hx]))]
      exact this _ (fun x hx => hno x (mem_rest.1 hx).1)
    simp only [hr, Option.isSome_none, Bool.false_eq_true, if_false]
    by_cases h48 : 48 ≤ (restH out L).length
    · rw [if_pos h48]; exact .inl ⟨5, by decide, rfl⟩
    · rw [if_neg h48]; exact .inr (.inr ⟨out, rfl, .inr ⟨hno, rfl⟩⟩)
  · obtain ⟨x, h1, h2, h3⟩ := idx_at L 0 j hi
    rw [Nat.sub_zero] at h1
    have hwr : wr = true := by
      unfold hadH at hh
      rw [hi] at hh
      simp only [h1] at hh
      cases wr
      · simp at hh
      · rfl
    simp only [Option.isSome_some, if_true]
    exact .inr (.inr ⟨out, rfl, .inl ⟨hwr, ⟨x, List.mem_of_getElem? h1, h2, h3, by rw [h2]; exact hto⟩, rfl⟩⟩)
/-- Lists stay right. -/
theorem ask_good {L : List Ho} (t : Tx) (key : ByteArray) (wr : Bool) (firm : List Tx) (h : goodH L) : goodH (askH L t key wr firm).1 := by
  rcases ask_cases L t key wr firm with ⟨e, _, e1⟩ | ⟨e1, _⟩ | ⟨out, hw, ⟨hwr, _, e1⟩ | ⟨hno, e1⟩⟩
  · rw [e1]; exact h
  · rw [e1]; exact h
  · rw [e1]
    refine good_raise (good_rest h) (fun y hy hk => ?_)
    obtain ⟨h1, h2⟩ := mem_rest.1 hy
    refine Decidable.byContradiction fun hne => h2 ((way_some L [] out hw).1 y h1 ?_)
    simp [inW, hk, hne, hwr]
  · rw [e1]
    refine good_add (good_rest h) (fun y hy hk => ?_)
    obtain ⟨h1, h2⟩ := mem_rest.1 hy
    have hne : y.t ≠ t := fun e => hno y h1 ⟨e, hk⟩
    refine ⟨hne, ?_⟩
    rcases hyw : y.wr with _ | _ <;> rcases hww : wr with _ | _
    · exact ⟨rfl, rfl⟩
    all_goals exact absurd ((way_some L [] out hw).1 y h1 (by simp [inW, hk, hne, hyw, hww])) h2
end Go.Proofs.YthgnecggdlamfaaGreat
/- Layer 12's laws in plain words: who is given a lock has it; who is wounded has none; all others have what they had. -/
namespace Go.Proofs.YthgnecggdlamfaaGreat

theorem ask_err {L : List Ho} {t : Tx} {key : ByteArray} {wr : Bool} {firm : List Tx} (h : (askH L t key wr firm).2.2 ≠ 0) : (askH L t key wr firm).1 = L ∧ (askH L t key wr firm).2.1 = [] := by
  rcases ask_cases L t key wr firm with ⟨e, _, e1⟩ | ⟨e1, _⟩ | ⟨out, hw, ⟨hwr, _, e1⟩ | ⟨hno, e1⟩⟩
  · rw [e1]; exact ⟨rfl, rfl⟩
  · rw [e1]; exact ⟨rfl, rfl⟩
  · rw [e1] at h; exact absurd rfl h
  · rw [e1] at h; exact absurd rfl h
theorem ask_has {L : List Ho} {t : Tx} {key : ByteArray} {wr : Bool} {firm : List Tx} (h : (askH L t key wr firm).2.2 = 0) : hasH t key false (askH L t key wr firm).1 = true := by
  rw [hasH_iff]
  rcases ask_cases L t key wr firm with ⟨e, e0, e1⟩ | ⟨e1, x, h1, h2, h3, _⟩ | ⟨out, hw, ⟨hwr, ⟨x, h1, h2, h3, h4⟩, e1⟩ | ⟨hno, e1⟩⟩
  · rw [e1] at h; exact absurd h e0
  · rw [e1]; exact ⟨x, h1, h2, h3, by simp⟩
  · rw [e1]
    rcases raise_mem (t := t) (key := key) (mem_rest.2 ⟨h1, h4⟩) with h5 | ⟨_, _, h5⟩
    · exact ⟨x, h5, h2, h3, by simp⟩
    · exact ⟨_, h5, rfl, rfl, by simp⟩
  · rw [e1]; exact ⟨⟨key, t, wr⟩, by simp, rfl, rfl, by simp⟩
theorem drop_none {z : Tx} {M : List Ho} (h : ∀ y ∈ M, y.t ≠ z) : dropH z M = M := by
  unfold dropH
  exact List.filter_eq_self.2 (fun y hy => by simp [h y hy])
/-- Who is wounded: not firm, younger, without locks. -/
theorem ask_wound {L : List Ho} {t : Tx} {key : ByteArray} {wr : Bool} {firm : List Tx} {z : Tx} (h : z ∈ (askH L t key wr firm).2.1) : amT z firm = false ∧ eldT t z = true ∧ dropH z (askH L t key wr firm).1 = (askH L t key wr firm).1 := by
  rcases ask_cases L t key wr firm with ⟨e, e0, e1⟩ | ⟨e1, _⟩ | ⟨out, hw, ⟨hwr, _, e1⟩ | ⟨hno, e1⟩⟩
  · rw [e1] at h; simp at h
  · rw [e1] at h; simp at h
  · rw [e1] at h ⊢
    rcases (way_some L [] out hw).2.2 z h with e | ⟨g1, g2, g3, _⟩
    · simp at e
    refine ⟨g3, g2, drop_none fun y hy => ?_⟩
    obtain ⟨x, h1, _, h3, _⟩ := mem_raise hy
    intro e
    exact (mem_rest.1 h1).2 (by rw [h3, e]; exact h)
  · rw [e1] at h ⊢
    rcases (way_some L [] out hw).2.2 z h with e | ⟨g1, g2, g3, _⟩
    · simp at e
    refine ⟨g3, g2, drop_none fun y hy => ?_⟩
    rcases List.mem_append.1 hy with hy | hy
    · intro e; exact (mem_rest.1 hy).2 (by rw [e]; exact h)
    · obtain rfl : y = ⟨key, t, wr⟩ := by simpa using hy
      exact fun e => g1 e.symm
/-- All others have what they had. -/
theorem ask_others {L : List Ho} {t : Tx} {key : ByteArray} {wr : Bool} {firm : List Tx} {z : Tx} (hz : z ∉ (askH L t key wr firm).2.1) (hzt : z ≠ t) (k : ByteArray) (b : Bool) : hasH z k b (askH L t key wr firm).1 = hasH z k b L := by
  have key2 : ∀ M : List Ho, (∀ x : Ho, x.t = z → (x ∈ M ↔ x ∈ L)) → hasH z k b M = hasH z k b L := fun M hM => by
    rw [Bool.eq_iff_iff, hasH_iff, hasH_iff]
    constructor
    · rintro ⟨x, h1, h2, h3⟩
      exact ⟨x, (hM x h2).1 h1, h2, h3⟩
    · rintro ⟨x, h1, h2, h3⟩
      exact ⟨x, (hM x h2).2 h1, h2, h3⟩
  rcases ask_cases L t key wr firm with ⟨e, e0, e1⟩ | ⟨e1, _⟩ | ⟨out, hw, ⟨hwr, _, e1⟩ | ⟨hno, e1⟩⟩
  · rw [e1]
  · rw [e1]
  · rw [e1] at hz ⊢
    refine key2 _ fun x hx => ⟨fun h => ?_, fun h => ?_⟩
    · obtain ⟨y, h1, _, _, h4 | ⟨_, h5⟩⟩ := mem_raise h
      · rw [h4]; exact (mem_rest.1 h1).1
      · exact absurd (hx.symm.trans h5) hzt
    · rcases raise_mem (t := t) (key := key) (mem_rest.2 ⟨h, by rw [hx]; exact hz⟩) with h5 | ⟨h5, _⟩
      · exact h5
      · exact absurd (hx.symm.trans h5) hzt
  · rw [e1] at hz ⊢
    refine key2 _ fun x hx => ⟨fun h => ?_, fun h => ?_⟩
    · rcases List.mem_append.1 h with h | h
      · exact (mem_rest.1 h).1
      · obtain rfl : x = ⟨key, t, wr⟩ := by simpa using h
        exact absurd hx.symm hzt
    · exact List.mem_append.2 (.inl (mem_rest.2 ⟨h, by rw [hx]; exact hz⟩))
/-- How many there are at most. -/
theorem raise_len (t : Tx) (key : ByteArray) : ∀ M : List Ho, (raiseH t key M).length = M.length
  | [] => rfl
  | x :: r => by
    have := raise_len t key r
    simp only [raiseH]; split <;> simp [*]
theorem rest_len (out : List Tx) (L : List Ho) : (restH out L).length ≤ L.length := List.length_filter_le _ _
theorem ask_len (L : List Ho) (t : Tx) (key : ByteArray) (wr : Bool) (firm : List Tx) : (askH L t key wr firm).1.length ≤ L.length + 1 := by
  rcases ask_cases L t key wr firm with ⟨e, e0, e1⟩ | ⟨e1, _⟩ | ⟨out, hw, ⟨hwr, _, e1⟩ | ⟨hno, e1⟩⟩
  · rw [e1]; simp
  · rw [e1]; simp
  · rw [e1]; simp only; rw [raise_len]; have := rest_len out L; omega
  · rw [e1]; have := rest_len out L; simp; omega
end Go.Proofs.YthgnecggdlamfaaGreat
/- What Ask answers, in memory. -/
namespace Go.Proofs.YthgnecggdlamfaaGreat
open Go.RowKit

/-- What Ask answers, in memory. -/
def AkP (w : World) (r : List Ho × List Tx × Nat) (e : Ending) (w' : World) : Prop := ∃ (a : Option Addr) (c : Nat) (a2 : Option Addr) (c2 : Nat), e = .returned (.tuple #[.slice a r.1.length c, .slice a2 r.2.1.length c2, .int .i64 (r.2.2 : Nat)]) ∧ Hos w' a r.1 ∧ r.1.length ≤ c ∧ c ≤ maxLen ∧ Txs w' a2 r.2.1 ∧ Below w.heap.size w w'
end Go.Proofs.YthgnecggdlamfaaGreat
/- Who is given a lock, who must give way: the document's Ask. -/
namespace Go.Proofs.YthgnecggdlamfaaGreat
open Go.RowKit

/-- A place as Go tells it. -/
def ixI : Option Nat → Int
  | none => -1
  | some j => j
theorem idxH_at {t : Tx} {key : ByteArray} {L : List Ho} {k : Nat} {x : Ho} (hx : L[k]? = some x) : idxH t key k (L.drop k) = if x.t = t ∧ x.key = key then some k else idxH t key (k + 1) (L.drop (k + 1)) := by
  obtain ⟨hk, rfl⟩ := List.getElem?_eq_some_iff.1 hx
  rw [List.drop_eq_getElem_cons hk]; rfl
theorem wayH_at {t : Tx} {key : ByteArray} {wr : Bool} {firm out : List Tx} {L : List Ho} {k : Nat} {x : Ho} (hx : L[k]? = some x) : wayH t key wr firm out (L.drop k) = if inW x t key wr then
      (if amT x.t firm || !eldT t x.t then none else wayH t key wr firm (if amT x.t out then out else out ++ [x.t]) (L.drop (k + 1)))
    else wayH t key wr firm out (L.drop (k + 1)) := by
  obtain ⟨hk, rfl⟩ := List.getElem?_eq_some_iff.1 hx
  rw [List.drop_eq_getElem_cons hk]; rfl
/-- One more lock is looked at. -/
def addH (hs : Option Nat) (out : List Tx) (k : Nat) (s : List Ho × Bool) (x : Ho) : List Ho × Bool :=
  if amT x.t out then s else if hs = some k then (s.1 ++ [⟨x.key, x.t, true⟩], true) else (s.1 ++ [x], s.2)
theorem leftH_snoc (hs : Option Nat) (out : List Tx) (x : Ho) : ∀ (A : List Ho) (i : Nat), leftH hs out i (A ++ [x]) = addH hs out (i + A.length) (leftH hs out i A) x
  | [], i => by
    simp only [List.nil_append, leftH, addH, List.length_nil, Nat.add_zero]
  | y :: r, i => by
    have ih := leftH_snoc hs out x r (i + 1)
    rw [show i + 1 + r.length = i + (y :: r).length by simp; omega] at ih
    simp only [List.cons_append, leftH]
    rw [ih]
    simp only [addH]
    split
    · rfl
    split
    · simp only
      split
      · rfl
      split <;> simp
    · simp only
      split
      · rfl
      split <;> simp
theorem leftH_at {hs : Option Nat} {out : List Tx} {L : List Ho} {k : Nat} {x : Ho} (hx : L[k]? = some x) : leftH hs out 0 (L.take (k + 1)) = addH hs out k (leftH hs out 0 (L.take k)) x := by
  obtain ⟨hk, rfl⟩ := List.getElem?_eq_some_iff.1 hx
  rw [List.take_succ_eq_append_getElem hk, leftH_snoc]
  rw [List.length_take, Nat.min_eq_left (by omega), Nat.zero_add]
theorem idx_lt (t : Tx) (key : ByteArray) : ∀ (L : List Ho) (i j : Nat), idxH t key i L = some j → j < i + L.length
  | [], i, j, h => by simp [idxH] at h
  | x :: r, i, j, h => by
    simp only [idxH] at h
    split at h
    · obtain rfl : i = j := by simpa using h
      simp
    · have := idx_lt t key r (i + 1) j h
      simp only [List.length_cons]; omega
theorem keepQ {w0 w w' : World} {x p y : Nat} {v0 v1 v2 v3 u0 u1 : Value} (h : w.cell? ⟨x, p, none⟩ = some v0 ∧ w.cell? ⟨x, p + 1, none⟩ = some v1 ∧ w.cell? ⟨x, p + 2, none⟩ = some v2 ∧ w.cell? ⟨x, p + 3, none⟩ = some v3 ∧ w.cell? ⟨y, 0, none⟩ = some u0 ∧ w.cell? ⟨y, 1, none⟩ = some u1 ∧ x < w.heap.size ∧ y < w.heap.size ∧ Below w0.heap.size w0 w) (hb : Below w.heap.size w w') :
    w'.cell? ⟨x, p, none⟩ = some v0 ∧ w'.cell? ⟨x, p + 1, none⟩ = some v1 ∧ w'.cell? ⟨x, p + 2, none⟩ = some v2 ∧ w'.cell? ⟨x, p + 3, none⟩ = some v3 ∧ w'.cell? ⟨y, 0, none⟩ = some u0 ∧ w'.cell? ⟨y, 1, none⟩ = some u1 ∧ x < w'.heap.size ∧ y < w'.heap.size ∧ Below w0.heap.size w0 w' := by
  obtain ⟨a0, a1, a2, a3, c0, c1, hl, hx, hB⟩ := h
  have f : ∀ j v, w.cell? ⟨x, j, none⟩ = some v → w'.cell? ⟨x, j, none⟩ = some v := fun j v e => (hb.cell (p := ⟨x, j, none⟩) hl).trans e
  have g : ∀ j v, w.cell? ⟨y, j, none⟩ = some v → w'.cell? ⟨y, j, none⟩ = some v := fun j v e => (hb.cell (p := ⟨y, j, none⟩) hx).trans e
  exact ⟨f _ _ a0, f _ _ a1, f _ _ a2, f _ _ a3, g _ _ c0, g _ _ c1, Nat.lt_of_lt_of_le hl hb.size, Nat.lt_of_lt_of_le hx hb.size, hB.trans (hb.mono hB.size)⟩
end Go.Proofs.YthgnecggdlamfaaGreat
