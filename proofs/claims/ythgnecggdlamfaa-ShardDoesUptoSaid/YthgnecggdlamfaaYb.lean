/- Layer 12's laws in plain words: lists stay right; who is given a lock has it; others keep theirs. -/
import Derived.Test.YthgnecggdlamfaaVm
import Derived.Test.YthgnecggdlamfaaUk
namespace Go.Proofs.Ythgnecggdlamfaa

theorem hasH_iff (t : Tx) (key : ByteArray) (wr : Bool) : ∀ L, hasH t key wr L = true ↔ ∃ x ∈ L, x.t = t ∧ x.key = key ∧ (x.wr || !wr) = true
  | [] => by simp [hasH]
  | x :: r => by
    simp only [hasH, Bool.or_eq_true, Bool.and_eq_true, decide_eq_true_eq, hasH_iff t key wr r, List.mem_cons]
    constructor
    · rintro (⟨h1, h2, h3⟩ | ⟨y, h1, h2⟩)
      · exact ⟨x, .inl rfl, h1, h2, h3⟩
      · exact ⟨y, .inr h1, h2⟩
    · rintro ⟨y, h1 | h1, h2, h3, h4⟩
      · subst h1; exact .inl ⟨h2, h3, h4⟩
      · exact .inr ⟨y, h1, h2, h3, h4⟩
theorem mem_rest {out : List Tx} {L : List Ho} {x : Ho} : x ∈ restH out L ↔ x ∈ L ∧ x.t ∉ out := by
  unfold restH
  rw [List.mem_filter, ← amT_iff x.t out]
  simp
theorem mem_raise {t : Tx} {key : ByteArray} {y : Ho} : ∀ {L : List Ho}, y ∈ raiseH t key L → ∃ z ∈ L, z.key = y.key ∧ z.t = y.t ∧ (y = z ∨ (y.key = key ∧ y.t = t))
  | x :: r, h => by
    simp only [raiseH] at h
    by_cases ho : x.t = t ∧ x.key = key
    · rw [if_pos ho] at h
      rcases List.mem_cons.1 h with e | e
      · subst e; exact ⟨x, by simp, rfl, rfl, .inr ⟨ho.2, ho.1⟩⟩
      · exact ⟨y, by simp [e], rfl, rfl, .inl rfl⟩
    · rw [if_neg ho] at h
      rcases List.mem_cons.1 h with e | e
      · subst e; exact ⟨y, by simp, rfl, rfl, .inl rfl⟩
      · obtain ⟨z, h1, h2⟩ := mem_raise e
        exact ⟨z, by simp [h1], h2⟩
theorem raise_mem {t : Tx} {key : ByteArray} {z : Ho} : ∀ {L : List Ho}, z ∈ L → z ∈ raiseH t key L ∨ (z.t = t ∧ z.key = key ∧ (⟨key, t, true⟩ : Ho) ∈ raiseH t key L)
  | x :: r, h => by
    simp only [raiseH]
    by_cases ho : x.t = t ∧ x.key = key
    · rw [if_pos ho]
      rcases List.mem_cons.1 h with e | e
      · subst e; exact .inr ⟨ho.1, ho.2, by simp [ho.1, ho.2]⟩
      · exact .inl (by simp [e])
    · rw [if_neg ho]
      rcases List.mem_cons.1 h with e | e
      · exact .inl (by simp [e])
      · rcases raise_mem (t := t) (key := key) e with h1 | ⟨h1, h2, h3⟩
        · exact .inl (by simp [h1])
        · exact .inr ⟨h1, h2, by simp [h3]⟩
/-- A Write lock of a key stands alone; nobody has two of one key. -/
def goodH (L : List Ho) : Prop := L.Pairwise fun x y => x.key = y.key → x.t ≠ y.t ∧ x.wr = false ∧ y.wr = false
theorem good_nil : goodH [] := List.Pairwise.nil
theorem good_drop {t : Tx} {L : List Ho} (h : goodH L) : goodH (dropH t L) := h.sublist List.filter_sublist
theorem good_rest {out : List Tx} {L : List Ho} (h : goodH L) : goodH (restH out L) := h.sublist List.filter_sublist
theorem good_raise {t : Tx} {key : ByteArray} : ∀ {M : List Ho}, goodH M → (∀ y ∈ M, y.key = key → y.t = t) → goodH (raiseH t key M)
  | [], _, _ => List.Pairwise.nil
  | x :: r, h, hn => by
    unfold goodH at h ⊢
    rw [List.pairwise_cons] at h
    simp only [raiseH]
    by_cases ho : x.t = t ∧ x.key = key
    · rw [if_pos ho, List.pairwise_cons]
      refine ⟨fun y hy he => ?_, h.2⟩
      have h1 := (h.1 y hy he).1
      have h2 := hn y (by simp [hy]) (he.symm.trans ho.2)
      exact absurd (ho.1.trans h2.symm) h1
    · rw [if_neg ho, List.pairwise_cons]
      refine ⟨fun y hy he => ?_, good_raise h.2 (fun y hy => hn y (by simp [hy]))⟩
      obtain ⟨z, h1, h2, h3, h4⟩ := mem_raise hy
      rcases h4 with e | ⟨e, _⟩
      · subst e; exact h.1 y h1 he
      · exact absurd ⟨hn x (by simp) (he.trans e), he.trans e⟩ ho
theorem good_add {t : Tx} {key : ByteArray} {wr : Bool} {M : List Ho} (h : goodH M) (hn : ∀ y ∈ M, y.key = key → y.t ≠ t ∧ y.wr = false ∧ wr = false) : goodH (M ++ [⟨key, t, wr⟩]) := by
  unfold goodH at h ⊢
  rw [List.pairwise_append]
  refine ⟨h, by simp, fun x hx y hy he => ?_⟩
  obtain rfl : y = ⟨key, t, wr⟩ := by simpa using hy
  exact hn x hx he
theorem idx_at {t : Tx} {key : ByteArray} : ∀ (L : List Ho) (i j : Nat), idxH t key i L = some j → ∃ x, L[j - i]? = some x ∧ x.t = t ∧ x.key = key
  | [], i, j, h => by simp [idxH] at h
  | x :: r, i, j, h => by
    simp only [idxH] at h
    split at h
    · rename_i ho
      obtain rfl : i = j := by simpa using h
      exact ⟨x, by simp, ho⟩
    · obtain ⟨y, h1, h2⟩ := idx_at r _ _ h
      have hge := idx_ge t key r _ _ h
      refine ⟨y, ?_, h2⟩
      rw [show j - i = (j - (i + 1)) + 1 by omega]; simpa using h1
theorem idx_none {t : Tx} {key : ByteArray} : ∀ (L : List Ho) (i : Nat), idxH t key i L = none → ∀ x ∈ L, ¬ (x.t = t ∧ x.key = key)
  | [], i, _ => by simp
  | x :: r, i, h => by
    simp only [idxH] at h
    split at h
    · cases h
    · rename_i ho
      intro y hy
      rcases List.mem_cons.1 hy with e | e
      · rw [e]; exact ho
      · exact idx_none r _ h y e
/-- What Ask answers: the locks as they were and an error; the same, for one has it; or those that are left, one's own raised or laid behind. -/
theorem ask_cases (L : List Ho) (t : Tx) (key : ByteArray) (wr : Bool) (firm : List Tx) :
    (∃ e, e ≠ 0 ∧ askH L t key wr firm = (L, [], e)) ∨ (askH L t key wr firm = (L, [], 0) ∧ ∃ x ∈ L, x.t = t ∧ x.key = key ∧ (x.wr || !wr) = true) ∨
    (∃ out, wayH t key wr firm [] L = some out ∧
      ((wr = true ∧ (∃ x ∈ L, x.t = t ∧ x.key = key ∧ x.t ∉ out) ∧ askH L t key wr firm = (raiseH t key (restH out L), out, 0)) ∨ ((∀ x ∈ L, ¬ (x.t = t ∧ x.key = key)) ∧ askH L t key wr firm = (restH out L ++ [⟨key, t, wr⟩], out, 0)))) := by
  unfold askH
  by_cases hh : hadH L (idxH t key 0 L) wr = true
  · rw [if_pos hh]
    refine .inr (.inl ⟨rfl, ?_⟩)
    unfold hadH at hh
    rcases hi : idxH t key 0 L with _ | j
    · rw [hi] at hh; cases hh
    · obtain ⟨x, h1, h2, h3⟩ := idx_at L 0 j hi
      rw [Nat.sub_zero] at h1
      rw [hi] at hh
      simp only [h1] at hh
      exact ⟨x, List.mem_of_getElem? h1, h2, h3, hh⟩
  rw [if_neg hh]
  rcases hw : wayH t key wr firm [] L with _ | out
  · exact .inl ⟨11, by decide, rfl⟩
  have ht : amT t out = false := by
    rcases h : amT t out with _ | _
    · rfl
    · rcases (way_some L [] out hw).2.2 t ((amT_iff _ _).1 h) with e | e
      · simp at e
      · exact absurd rfl e.1
  have hto : t ∉ out := fun h => by rw [(amT_iff _ _).2 h] at ht; cases ht
  simp only [left_is ht L 0]
  rcases hi : idxH t key 0 L with _ | j
  · have hno := idx_none L 0 hi
    have hr : raiseH t key (restH out L) = restH out L := by
      have : ∀ M : List Ho, (∀ x ∈ M, ¬ (x.t = t ∧ x.key = key)) → raiseH t key M = M := by
        intro M
        induction M with
        | nil => intro _; rfl
        | cons y r ih => intro h; simp only [raiseH]; rw [if_neg (h y (by simp)), ih (fun x hx => h x (by simp [hx]))]
      exact this _ (fun x hx => hno x (mem_rest.1 hx).1)
    simp only [hr, Option.isSome_none, Bool.false_eq_true, if_false]
    by_cases h48 : 48 ≤ (restH out L).length
    · rw [if_pos h48]; exact .inl ⟨5, by decide, rfl⟩
    · rw [if_neg h48]; exact .inr (.inr ⟨out, rfl, .inr ⟨hno, rfl⟩⟩)
  · obtain ⟨x, h1, h2, h3⟩ := idx_at L 0 j hi
    rw [Nat.sub_zero] at h1
    have hwr : wr = true := by
      unfold hadH at hh
      rw [hi] at hh
      simp only [h1] at hh
      cases wr
      · simp at hh
      · rfl
    simp only [Option.isSome_some, if_true]
    exact .inr (.inr ⟨out, rfl, .inl ⟨hwr, ⟨x, List.mem_of_getElem? h1, h2, h3, by rw [h2]; exact hto⟩, rfl⟩⟩)
/-- Lists stay right. -/
theorem ask_good {L : List Ho} (t : Tx) (key : ByteArray) (wr : Bool) (firm : List Tx) (h : goodH L) : goodH (askH L t key wr firm).1 := by
  rcases ask_cases L t key wr firm with ⟨e, _, e1⟩ | ⟨e1, _⟩ | ⟨out, hw, ⟨hwr, _, e1⟩ | ⟨hno, e1⟩⟩
  · rw [e1]; exact h
  · rw [e1]; exact h
  · rw [e1]
    refine good_raise (good_rest h) (fun y hy hk => ?_)
    obtain ⟨h1, h2⟩ := mem_rest.1 hy
    refine Decidable.byContradiction fun hne => h2 ((way_some L [] out hw).1 y h1 ?_)
    simp [inW, hk, hne, hwr]
  · rw [e1]
    refine good_add (good_rest h) (fun y hy hk => ?_)
    obtain ⟨h1, h2⟩ := mem_rest.1 hy
    have hne : y.t ≠ t := fun e => hno y h1 ⟨e, hk⟩
    refine ⟨hne, ?_⟩
    rcases hyw : y.wr with _ | _ <;> rcases hww : wr with _ | _
    · exact ⟨rfl, rfl⟩
    all_goals exact absurd ((way_some L [] out hw).1 y h1 (by simp [inW, hk, hne, hyw, hww])) h2
end Go.Proofs.Ythgnecggdlamfaa
/- Layer 12's laws in plain words: who is given a lock has it; who is wounded has none; all others have what they had. -/
namespace Go.Proofs.Ythgnecggdlamfaa

theorem ask_err {L : List Ho} {t : Tx} {key : ByteArray} {wr : Bool} {firm : List Tx} (h : (askH L t key wr firm).2.2 ≠ 0) : (askH L t key wr firm).1 = L ∧ (askH L t key wr firm).2.1 = [] := by
  rcases ask_cases L t key wr firm with ⟨e, _, e1⟩ | ⟨e1, _⟩ | ⟨out, hw, ⟨hwr, _, e1⟩ | ⟨hno, e1⟩⟩
  · rw [e1]; exact ⟨rfl, rfl⟩
  · rw [e1]; exact ⟨rfl, rfl⟩
  · rw [e1] at h; exact absurd rfl h
  · rw [e1] at h; exact absurd rfl h
theorem ask_has {L : List Ho} {t : Tx} {key : ByteArray} {wr : Bool} {firm : List Tx} (h : (askH L t key wr firm).2.2 = 0) : hasH t key false (askH L t key wr firm).1 = true := by
  rw [hasH_iff]
  rcases ask_cases L t key wr firm with ⟨e, e0, e1⟩ | ⟨e1, x, h1, h2, h3, _⟩ | ⟨out, hw, ⟨hwr, ⟨x, h1, h2, h3, h4⟩, e1⟩ | ⟨hno, e1⟩⟩
  · rw [e1] at h; exact absurd h e0
  · rw [e1]; exact ⟨x, h1, h2, h3, by simp⟩
  · rw [e1]
    rcases raise_mem (t := t) (key := key) (mem_rest.2 ⟨h1, h4⟩) with h5 | ⟨_, _, h5⟩
    · exact ⟨x, h5, h2, h3, by simp⟩
    · exact ⟨_, h5, rfl, rfl, by simp⟩
  · rw [e1]; exact ⟨⟨key, t, wr⟩, by simp, rfl, rfl, by simp⟩
theorem drop_none {z : Tx} {M : List Ho} (h : ∀ y ∈ M, y.t ≠ z) : dropH z M = M := by
  unfold dropH
  exact List.filter_eq_self.2 (fun y hy => by simp [h y hy])
/-- Who is wounded: not firm, younger, without locks. -/
theorem ask_wound {L : List Ho} {t : Tx} {key : ByteArray} {wr : Bool} {firm : List Tx} {z : Tx} (h : z ∈ (askH L t key wr firm).2.1) : amT z firm = false ∧ eldT t z = true ∧ dropH z (askH L t key wr firm).1 = (askH L t key wr firm).1 := by
  rcases ask_cases L t key wr firm with ⟨e, e0, e1⟩ | ⟨e1, _⟩ | ⟨out, hw, ⟨hwr, _, e1⟩ | ⟨hno, e1⟩⟩
  · rw [e1] at h; simp at h
  · rw [e1] at h; simp at h
  · rw [e1] at h ⊢
    rcases (way_some L [] out hw).2.2 z h with e | ⟨g1, g2, g3, _⟩
    · simp at e
    refine ⟨g3, g2, drop_none fun y hy => ?_⟩
    obtain ⟨x, h1, _, h3, _⟩ := mem_raise hy
    intro e
    exact (mem_rest.1 h1).2 (by rw [h3, e]; exact h)
  · rw [e1] at h ⊢
    rcases (way_some L [] out hw).2.2 z h with e | ⟨g1, g2, g3, _⟩
    · simp at e
    refine ⟨g3, g2, drop_none fun y hy => ?_⟩
    rcases List.mem_append.1 hy with hy | hy
    · intro e; exact (mem_rest.1 hy).2 (by rw [e]; exact h)
    · obtain rfl : y = ⟨key, t, wr⟩ := by simpa using hy
      exact fun e => g1 e.symm
/-- All others have what they had. -/
theorem ask_others {L : List Ho} {t : Tx} {key : ByteArray} {wr : Bool} {firm : List Tx} {z : Tx} (hz : z ∉ (askH L t key wr firm).2.1) (hzt : z ≠ t) (k : ByteArray) (b : Bool) : hasH z k b (askH L t key wr firm).1 = hasH z k b L := by
  have key2 : ∀ M : List Ho, (∀ x : Ho, x.t = z → (x ∈ M ↔ x ∈ L)) → hasH z k b M = hasH z k b L := fun M hM => by
    rw [Bool.eq_iff_iff, hasH_iff, hasH_iff]
    constructor
    · rintro ⟨x, h1, h2, h3⟩
      exact ⟨x, (hM x h2).1 h1, h2, h3⟩
    · rintro ⟨x, h1, h2, h3⟩
      exact ⟨x, (hM x h2).2 h1, h2, h3⟩
  rcases ask_cases L t key wr firm with ⟨e, e0, e1⟩ | ⟨e1, _⟩ | ⟨out, hw, ⟨hwr, _, e1⟩ | ⟨hno, e1⟩⟩
  · rw [e1]
  · rw [e1]
  · rw [e1] at hz ⊢
    refine key2 _ fun x hx => ⟨fun h => ?_, fun h => ?_⟩
    · obtain ⟨y, h1, _, _, h4 | ⟨_, h5⟩⟩ := mem_raise h
      · rw [h4]; exact (mem_rest.1 h1).1
      · exact absurd (hx.symm.trans h5) hzt
    · rcases raise_mem (t := t) (key := key) (mem_rest.2 ⟨h, by rw [hx]; exact hz⟩) with h5 | ⟨h5, _⟩
      · exact h5
      · exact absurd (hx.symm.trans h5) hzt
  · rw [e1] at hz ⊢
    refine key2 _ fun x hx => ⟨fun h => ?_, fun h => ?_⟩
    · rcases List.mem_append.1 h with h | h
      · exact (mem_rest.1 h).1
      · obtain rfl : x = ⟨key, t, wr⟩ := by simpa using h
        exact absurd hx.symm hzt
    · exact List.mem_append.2 (.inl (mem_rest.2 ⟨h, by rw [hx]; exact hz⟩))
/-- How many there are at most. -/
theorem raise_len (t : Tx) (key : ByteArray) : ∀ M : List Ho, (raiseH t key M).length = M.length
  | [] => rfl
  | x :: r => by
    have := raise_len t key r
    simp only [raiseH]; split <;> simp [*]
theorem rest_len (out : List Tx) (L : List Ho) : (restH out L).length ≤ L.length := List.length_filter_le _ _
theorem ask_len (L : List Ho) (t : Tx) (key : ByteArray) (wr : Bool) (firm : List Tx) : (askH L t key wr firm).1.length ≤ L.length + 1 := by
  rcases ask_cases L t key wr firm with ⟨e, e0, e1⟩ | ⟨e1, _⟩ | ⟨out, hw, ⟨hwr, _, e1⟩ | ⟨hno, e1⟩⟩
  · rw [e1]; simp
  · rw [e1]; simp
  · rw [e1]; simp only; rw [raise_len]; have := rest_len out L; omega
  · rw [e1]; have := rest_len out L; simp; omega
end Go.Proofs.Ythgnecggdlamfaa
/- Shards, in plain words: layer 13's mathematics. -/
namespace Go.Proofs.Ythgnecggdlamfaa

/-- A transaction that a shard knows of; one that is over; a shard; an order; an answer. -/
structure Sop where
  t : Tx
  fm : Bool
  wd : Bool
  puts : List Pu
structure Sdn where
  t : Tx
  cm : Bool
structure Sh where
  rows : List Ro
  holds : List Ho
  opn : List Sop
  done : List Sdn
  ver : Nat
structure Odr where
  kind : Int
  t : Tx
  key : ByteArray
  puts : List Pu
  cm : Bool
structure Ans where
  err : Nat
  val : ByteArray
  ver : Nat
  found : Bool
  cm : Bool
/-- The first of a transaction that is open; what became of one that is over. -/
def knoS (t : Tx) : List Sop → Option Sop
  | [] => none
  | x :: r => if x.t = t then some x else knoS t r
def ovrS (t : Tx) : List Sdn → Option Bool
  | [] => none
  | x :: r => if x.t = t then some x.cm else ovrS t r
/-- A key more, if it isn't there; how many keys there may be. -/
def memK (k : ByteArray) : List ByteArray → Bool
  | [] => false
  | x :: r => decide (x = k) || memK k r
def addK (l : List ByteArray) (k : ByteArray) : List ByteArray := if memK k l then l else l ++ [k]
def putK (P : List Pu) : List ByteArray := (P.filter fun p => !p.gone).map fun p => p.key
def opnK (O : List Sop) : List ByteArray := O.flatMap fun x => if x.fm then putK x.puts else []
def allK (s : Sh) (more : List Pu) : List ByteArray := s.rows.map (fun x => x.key) ++ opnK s.opn ++ putK more
def keysN (s : Sh) (more : List Pu) : Nat := ((allK s more).foldl addK []).length
/-- Whether puts are the same. -/
def samP (x y : Pu) : Bool := decide (x.key = y.key) && (decide (x.val = y.val) && x.gone == y.gone)
def samPs : List Pu → List Pu → Bool
  | [], [] => true
  | x :: r, y :: s => samP x y && samPs r s
  | _, _ => false
def ansE (e : Nat) : Ans := ⟨e, ⟨#[]⟩, 0, false, false⟩
def ansC (e : Nat) (c : Bool) : Ans := ⟨e, ⟨#[]⟩, 0, false, c⟩
def firmS (O : List Sop) : List Tx := (O.filter fun x => x.fm).map fun x => x.t
def wndS (out : List Tx) (O : List Sop) : List Sop := O.map fun x => ⟨x.t, x.fm, x.wd || amT x.t out, x.puts⟩
/-- ORead, OLock. -/
def asksS (s : Sh) (o : Odr) : Sh × Ans :=
  match ovrS o.t s.done with
  | some c => (s, ansC 13 c)
  | none =>
    if o.key.size < 1 ∨ 16 < o.key.size then (s, ansE 1)
    else if (knoS o.t s.opn).any (fun x => x.wd) then (s, ansE 12)
    else if (knoS o.t s.opn).any (fun x => x.fm) then (s, ansE 9)
    else if (knoS o.t s.opn).isNone ∧ 64 ≤ s.opn.length + s.done.length then (s, ansE 5)
    else if (askH s.holds o.t o.key (decide (o.kind = 2)) (firmS s.opn)).2.2 ≠ 0 then (s, ansE (askH s.holds o.t o.key (decide (o.kind = 2)) (firmS s.opn)).2.2)
    else (⟨s.rows, (askH s.holds o.t o.key (decide (o.kind = 2)) (firmS s.opn)).1, wndS (askH s.holds o.t o.key (decide (o.kind = 2)) (firmS s.opn)).2.1 s.opn ++ (if (knoS o.t s.opn).isNone then [⟨o.t, false, false, []⟩] else []), s.done, s.ver⟩,
      match getR o.key s.rows with
      | some x => ⟨0, x.val, x.ver, true, false⟩
      | none => ⟨0, ⟨#[]⟩, s.ver, false, false⟩)
/-- The first of a transaction prepared. -/
def prpS (t : Tx) (P : List Pu) : List Sop → List Sop
  | [] => []
  | x :: r => if x.t = t then ⟨x.t, true, x.wd, P⟩ :: r else x :: prpS t P r
/-- OPrepare. -/
def prepS (s : Sh) (o : Odr) : Sh × Ans :=
  match ovrS o.t s.done with
  | some c => (s, ansC 13 c)
  | none => match knoS o.t s.opn with
    | none => (s, ansE 7)
    | some x =>
      if x.wd then (s, ansE 12)
      else if x.fm then (if samPs x.puts o.puts then (s, ansE 0) else (s, ansE 9))
      else if fitsX o.puts ≠ 0 then (s, ansE (fitsX o.puts))
      else if o.puts.all (fun p => hasH o.t p.key true s.holds) = false then (s, ansE 9)
      else if 32 < keysN s o.puts then (s, ansE 5)
      else (⟨s.rows, s.holds, prpS o.t o.puts s.opn, s.done, s.ver⟩, ansE 0)
/-- A transaction released, and over. -/
def relS (rows : List Ro) (ver : Nat) (s : Sh) (o : Odr) : Sh := ⟨rows, dropH o.t s.holds, s.opn.filter (fun x => !decide (x.t = o.t)), s.done ++ [⟨o.t, o.cm⟩], ver⟩
/-- OFinish. -/
def finS (s : Sh) (o : Odr) : Sh × Ans :=
  match ovrS o.t s.done with
  | some c => (s, ansC (if c = o.cm then 0 else 13) c)
  | none => match knoS o.t s.opn with
    | none => if o.cm then (s, ansE 7) else if 64 ≤ s.opn.length + s.done.length then (s, ansE 5) else (relS s.rows s.ver s o, ansC 0 o.cm)
    | some x =>
      if o.cm = true ∧ x.fm = false then (s, ansE 9)
      else if o.cm = true ∧ 0 < x.puts.length then
        (if (allR s.rows x.puts ((s.ver + 1) % 18446744073709551616)).2 ≠ 0 then (s, ansE (allR s.rows x.puts ((s.ver + 1) % 18446744073709551616)).2)
        else (relS (allR s.rows x.puts ((s.ver + 1) % 18446744073709551616)).1 ((s.ver + 1) % 18446744073709551616) s o, ansC 0 o.cm))
      else (relS s.rows s.ver s o, ansC 0 o.cm)
/-- Do. -/
def doS (s : Sh) (o : Odr) : Sh × Ans :=
  if o.kind = 1 ∨ o.kind = 2 then asksS s o
  else if o.kind = 3 then prepS s o
  else if o.kind = 4 then finS s o
  else (s, ansE 1)
/-- Whether an open transaction is as it must be. -/
def opOk (s : Sh) (x : Sop) : Bool := (ovrS x.t s.done).isNone && (!(x.fm && x.wd) && ((x.fm || decide (x.puts.length = 0)) && (decide (fitsX x.puts = 0) && x.puts.all fun p => hasH x.t p.key true s.holds)))
def fstS : Nat → List Sop → List Sop → Bool
  | _, _, [] => true
  | i, p, x :: r => (p.all fun y => !decide (y.t = x.t)) && fstS (i + 1) (p ++ [x]) r
def fstD : List Sdn → List Sdn → Bool
  | _, [] => true
  | p, x :: r => (p.all fun y => !decide (y.t = x.t)) && fstD (p ++ [x]) r
/-- Whether a shard is right. -/
def rightS (s : Sh) : Bool :=
  rightB s.rows && (rightH s.holds && (decide (s.opn.length + s.done.length ≤ 64) && (decide (keysN s [] ≤ 32) &&
    (fstS 0 [] s.opn && (s.opn.all (opOk s) && (fstD [] s.done && s.holds.all fun h => (knoS h.t s.opn).any fun x => !x.wd))))))
end Go.Proofs.Ythgnecggdlamfaa
/- Layer 13's mathematics: keys that are counted; puts that have room. -/
namespace Go.Proofs.Ythgnecggdlamfaa

theorem memK_iff (k : ByteArray) : ∀ l, memK k l = true ↔ k ∈ l
  | [] => by simp [memK]
  | x :: r => by
    simp only [memK, Bool.or_eq_true, decide_eq_true_eq, memK_iff k r, List.mem_cons]
    exact ⟨fun h => h.imp Eq.symm id, fun h => h.imp Eq.symm id⟩
theorem addK_mem (l : List ByteArray) (k x : ByteArray) : x ∈ addK l k ↔ x ∈ l ∨ x = k := by
  unfold addK
  split
  · rename_i h
    have := (memK_iff k l).1 h
    exact ⟨.inl, fun h => h.elim id fun e => e ▸ this⟩
  · simp
theorem addK_nodup {l : List ByteArray} (h : l.Nodup) (k : ByteArray) : (addK l k).Nodup := by
  unfold addK
  split
  · exact h
  · rename_i hm
    have hn : k ∉ l := fun h => hm ((memK_iff k l).2 h)
    exact List.nodup_append.2 ⟨h, by simp, fun a ha b hb => by
      obtain rfl : b = k := by simpa using hb
      intro e; exact hn (e ▸ ha)⟩
theorem foldK_mem (x : ByteArray) : ∀ (l acc : List ByteArray), x ∈ l.foldl addK acc ↔ x ∈ acc ∨ x ∈ l
  | [], acc => by simp
  | k :: r, acc => by
    rw [List.foldl_cons, foldK_mem x r, addK_mem, List.mem_cons, or_assoc]
theorem foldK_nodup : ∀ (l acc : List ByteArray), acc.Nodup → (l.foldl addK acc).Nodup
  | [], _, h => h
  | k :: r, acc, h => by rw [List.foldl_cons]; exact foldK_nodup r _ (addK_nodup h k)
theorem len_sub : ∀ (A B : List ByteArray), A.Nodup → (∀ x ∈ A, x ∈ B) → A.length ≤ B.length
  | [], B, _, _ => Nat.zero_le _
  | x :: r, B, h, hs => by
    rw [List.nodup_cons] at h
    obtain ⟨s, t, rfl⟩ := List.append_of_mem (hs x (by simp))
    have := len_sub r (s ++ t) h.2 fun y hy => by
      have hne : y ≠ x := fun e => h.1 (e ▸ hy)
      have := hs y (by simp [hy])
      simp only [List.mem_append, List.mem_cons] at this ⊢
      rcases this with e | e | e
      · exact .inl e
      · exact absurd e hne
      · exact .inr e
    simp only [List.length_append, List.length_cons] at this ⊢; omega
/-- How many keys there are. -/
def dcK (l : List ByteArray) : Nat := (l.foldl addK []).length
theorem dcK_mono {l m : List ByteArray} (h : ∀ x ∈ l, x ∈ m) : dcK l ≤ dcK m :=
  len_sub _ _ (foldK_nodup l [] List.nodup_nil) fun x hx => by
    rw [foldK_mem] at hx ⊢
    exact .inr (h x (hx.resolve_left (by simp)))
theorem dcK_len {A l : List ByteArray} (hA : A.Nodup) (h : ∀ x ∈ A, x ∈ l) : A.length ≤ dcK l :=
  len_sub _ _ hA fun x hx => by rw [foldK_mem]; exact .inr (h x hx)
theorem keysN_dc (s : Sh) (more : List Pu) : keysN s more = dcK (allK s more) := rfl
/-- A right list's keys are different. -/
theorem srt_nodup {L : List Ro} (h : srt L) : (L.map fun x => x.key).Nodup := by
  unfold srt at h
  rw [List.Nodup, List.pairwise_map]
  exact h.imp fun hl e => lessB_ne hl e
/-- Each put may be done. -/
theorem fitF_ok : ∀ (Q P : List Pu), fitF P Q = true → ∀ p ∈ Q, putOk p = true
  | [], _, _ => by simp
  | x :: r, P, h => by
    simp only [fitF, Bool.and_eq_true] at h
    intro p hp
    rcases List.mem_cons.1 hp with e | e
    · rw [e]; exact h.1
    · exact fitF_ok r _ h.2.2 p e
theorem fits_one {P : List Pu} (h : fitsX P = 0) {p : Pu} (hp : p ∈ P) : fitsX [p] = 0 := by
  have hf : fitF [] P = true := by
    unfold fitsX at h
    split at h
    · cases h
    · rcases h4 : fitF [] P with _ | _
      · rw [h4] at h; simp at h
      · rfl
  have := fitF_ok P [] hf p hp
  unfold fitsX
  rw [if_neg (by simp), if_pos (by simp [fitF, keyIn, this])]
/-- Puts for which there is room are done. -/
theorem do_ok {M : List Ro} {p : Pu} {ver : Nat} {K : List ByteArray} (hM : rightB M = true) (hK : ∀ x ∈ M, x.key ∈ K) (hf : fitsX [p] = 0) (hp : p.gone = false → p.key ∈ K) (h32 : dcK K ≤ 32) :
    (doR M p ver).2 = 0 ∧ ∀ x ∈ (doR M p ver).1, x.key ∈ K := by
  unfold doR
  rw [if_neg (by omega)]
  rcases hg : p.gone with _ | _
  · simp only [Bool.false_eq_true, ↓reduceIte]
    by_cases hs : (getR p.key M).isSome
    · rw [if_pos hs]
      refine ⟨rfl, fun x hx => ?_⟩
      rcases mem_set hx with e | e
      · rw [e]; exact hp hg
      · exact hK x e
    · rw [if_neg hs]
      have hn := (getR_none_iff p.key M).1 (by simpa using hs)
      by_cases h : 32 ≤ M.length
      · have hnd := srt_nodup ((rightB_iff M).1 hM).2.2
        have hnd2 : (p.key :: M.map fun x => x.key).Nodup := List.nodup_cons.2 ⟨fun hm => by
          obtain ⟨x, hx, e⟩ := List.mem_map.1 hm
          exact hn x hx e, hnd⟩
        have := dcK_len hnd2 (l := K) fun y hy => by
          rcases List.mem_cons.1 hy with e | e
          · rw [e]; exact hp hg
          · obtain ⟨x, hx, e⟩ := List.mem_map.1 e
            rw [← e]; exact hK x hx
        simp only [List.length_cons, List.length_map] at this
        omega
      · rw [if_neg h]
        refine ⟨rfl, fun x hx => ?_⟩
        rcases mem_ins hx with e | e
        · rw [e]; exact hp hg
        · exact hK x e
  · simp only [↓reduceIte]
    exact ⟨trivial, fun x hx => hK x (mem_del hx)⟩
theorem seq_ok {ver : Nat} (hv : ver ≤ 4611686018427387903) {K : List ByteArray} (h32 : dcK K ≤ 32) : ∀ (Q : List Pu) (M : List Ro), rightB M = true → (∀ x ∈ M, x.key ∈ K) → (∀ p ∈ Q, fitsX [p] = 0 ∧ (p.gone = false → p.key ∈ K)) →
    (seqR ver M Q).2 = 0 ∧ rightB (seqR ver M Q).1 = true ∧ ∀ x ∈ (seqR ver M Q).1, x.key ∈ K
  | [], M, hM, hK, _ => ⟨rfl, hM, hK⟩
  | p :: r, M, hM, hK, hQ => by
    obtain ⟨h1, h2⟩ := do_ok (ver := ver) hM hK (hQ p (by simp)).1 (hQ p (by simp)).2 h32
    have h3 := (doR_right hM hv h1).1
    simp only [seqR, if_pos h1]
    exact seq_ok hv h32 r _ h3 h2 fun q hq => hQ q (by simp [hq])
theorem all_ok {L : List Ro} {P : List Pu} {ver : Nat} (hL : rightB L = true) (hv : ver ≤ 4611686018427387903) (hf : fitsX P = 0) (h32 : dcK (L.map (fun x => x.key) ++ putK P) ≤ 32) :
    (allR L P ver).2 = 0 ∧ ∀ x ∈ (allR L P ver).1, x.key ∈ L.map (fun x => x.key) ++ putK P := by
  have hP : ∀ p ∈ P, fitsX [p] = 0 ∧ (p.gone = false → p.key ∈ L.map (fun x => x.key) ++ putK P) := fun p hp => ⟨fits_one hf hp, fun hg => by
    refine List.mem_append.2 (.inr (List.mem_map.2 ⟨p, List.mem_filter.2 ⟨hp, by simp [hg]⟩, rfl⟩))⟩
  have h1 := seq_ok hv h32 (P.filter fun p => p.gone) L hL (fun x hx => List.mem_append.2 (.inl (List.mem_map.2 ⟨x, hx, rfl⟩))) fun p hp => hP p (List.mem_filter.1 hp).1
  have h2 := seq_ok hv h32 (P.filter fun p => !p.gone) _ h1.2.1 h1.2.2 fun p hp => hP p (List.mem_filter.1 hp).1
  unfold allR
  rw [if_neg (by omega), if_pos h1.1]
  exact ⟨h2.1, h2.2.2⟩
end Go.Proofs.Ythgnecggdlamfaa
