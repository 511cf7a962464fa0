/- BallotOne: its parts: seats in a row of the call's own, lists of votes; what holds of them. -/
import Derived.Test.YtmcmanjniloeaaaWf
import Derived.Test.YtmcmanjniloeaaaWe
import Derived.Test.YtmcmanjniloeaaaWk
namespace Go.Proofs.Ytmcmanjniloeaaa
open Go.RowKit

def seC (s : Se) : List Value := [.int .u64 (s.t : Nat), .int .u64 (s.v : Nat), .int .u64 (s.lt : Nat), .int .u64 (s.li : Nat), .bool s.h]
theorem seT : RowT (α := Se) 46 24 5 40 (.agg #[.int .u64 0, .int .u64 0, .int .u64 0, .int .u64 0, .bool false]) seC :=
  ⟨Try.underlying46, by kernel_rfl, rfl, by decide, by decide, fun _ => rfl, fun x u hu => by
    simp only [seC, List.mem_cons, List.not_mem_nil, or_false] at hu
    rcases hu with rfl | rfl | rfl | rfl | rfl <;> rfl⟩
/-- A slice's head, as a value. -/
structure Sv where
  a : Option Addr
  n : Nat
  c : Nat
def svC (s : Sv) : List Value := [.slice s.a s.n s.c]
theorem svT : RowT (α := Sv) 47 39 1 24 (.slice none 0 0) svC :=
  ⟨Try.underlying47, by kernel_rfl, rfl, by decide, by decide, fun _ => rfl, fun x u hu => by
    simp only [svC, List.mem_cons, List.not_mem_nil, or_false] at hu
    subst hu; rfl⟩
section
variable {α : Type} {f : α → List Value} {k : Nat}
theorem rwC_split {L : List α} {j : Nat} {y : α} (h : L[j]? = some y) : rwC f L = rwC f (L.take j) ++ (f y ++ rwC f (L.drop (j + 1))) := by
  obtain ⟨hj, rfl⟩ := List.getElem?_eq_some_iff.1 h
  have e : L = L.take j ++ (L[j] :: L.drop (j + 1)) := by rw [← List.drop_eq_getElem_cons hj, List.take_append_drop]
  have e2 := congrArg (fun M => M.flatMap f) e
  simp only [List.flatMap_append, List.flatMap_cons] at e2
  exact e2
theorem set_mid (A B C : List Value) {i : Nat} (h : i < B.length) (v : Value) : (A ++ (B ++ C)).set (A.length + i) v = A ++ (B.set i v ++ C) := by
  rw [List.set_append_right _ _ (Nat.le_add_right _ _), Nat.add_sub_cancel_left, List.set_append_left _ _ h]
theorem set_mid0 (A B C : List Value) (h : 0 < B.length) (v : Value) : (A ++ (B ++ C)).set A.length v = A ++ (B.set 0 v ++ C) := set_mid A B C h v
end
theorem seC_set {S : List Se} {j : Nat} {y : Se} (h : S[j]? = some y) (s : Se) :
    (((((rwC seC S).set (j * 5) (.int .u64 s.t)).set (j * 5 + 1) (.int .u64 s.v)).set (j * 5 + 2) (.int .u64 s.lt)).set (j * 5 + 3) (.int .u64 s.li)).set (j * 5 + 4) (.bool s.h) = rwC seC (S.set j s) := by
  have hj := (List.getElem?_eq_some_iff.1 h).1
  have hl : (rwC seC (S.take j)).length = j * 5 := by rw [rwC_len (k := 5) (fun _ => rfl), List.length_take]; congr 1; omega
  have h2 : (S.set j s)[j]? = some s := by simp [hj]
  rw [rwC_split h, rwC_split h2, List.take_set_of_le (Nat.le_refl _), List.drop_set_of_lt (Nat.lt_succ_self _)]
  generalize rwC seC (S.take j) = A at hl ⊢
  generalize rwC seC (S.drop (j + 1)) = C
  rw [← hl, set_mid0 _ _ _ (by simp [seC]), set_mid _ _ _ (by simp [seC]), set_mid _ _ _ (by simp [seC]), set_mid _ _ _ (by simp [seC]), set_mid _ _ _ (by simp [seC])]
  rfl
theorem svC_set {S : List Sv} {j : Nat} {y : Sv} (h : S[j]? = some y) (s : Sv) : (rwC svC S).set j (.slice s.a s.n s.c) = rwC svC (S.set j s) := by
  have hj := (List.getElem?_eq_some_iff.1 h).1
  have hl : (rwC svC (S.take j)).length = j := by rw [rwC_len (k := 1) (fun _ => rfl), List.length_take]; omega
  have h2 : (S.set j s)[j]? = some s := by simp [hj]
  rw [rwC_split h, rwC_split h2, List.take_set_of_le (Nat.le_refl _), List.drop_set_of_lt (Nat.lt_succ_self _)]
  generalize rwC svC (S.take j) = A at hl ⊢
  generalize rwC svC (S.drop (j + 1)) = C
  rw [← hl, set_mid0 _ _ _ (by simp [svC])]
  rfl
theorem nodup_at {V : List Nat} (hV : V.Nodup) {i j id : Nat} (h1 : V[i]? = some id) (h2 : V[j]? = some id) : i = j := by
  obtain ⟨a1, b1⟩ := List.getElem?_eq_some_iff.1 h1
  obtain ⟨a2, b2⟩ := List.getElem?_eq_some_iff.1 h2
  have hp := List.pairwise_iff_getElem.1 hV
  rcases Nat.lt_trichotomy i j with h | h | h
  · exact absurd (b1.trans b2.symm) (hp i j a1 a2 h)
  · exact h
  · exact absurd (b2.trans b1.symm) (hp j i a2 a1 h)
/-- What holds of the seats and the votes: a seat has granted to one node alone in the term. -/
def OneInv (V : List Nat) (A : List Ak) (term : Nat) (S : List Se) (LL : List (List Nat)) : Prop :=
  ∀ (v id : Nat) (s : Se), V[v]? = some id → S[v]? = some s → ∃ F, ∀ (j : Nat) (x : Ak) (l : List Nat), A[j]? = some x → LL[j]? = some l → id ∈ l → x.fr = F ∧ F ≠ 0 ∧ term ≤ s.t ∧ (s.t = term → s.v = F)
theorem oneInv_start (V : List Nat) (A : List Ak) (term : Nat) (S : List Se) (n : Nat) : OneInv V A term S (List.replicate n []) := fun v id s _ _ => ⟨0, fun j x l _ hl hid => by
  obtain ⟨_, h⟩ := List.getElem?_eq_some_iff.1 hl
  simp at h; subst h; cases hid⟩
theorem ansS_quiet (s : Se) (x : Ak) (F term : Nat) (hF : F ≠ 0) (h1 : term ≤ s.t) (h2 : s.t = term → s.v = F) : term ≤ (ansS s x).1.t ∧ ((ansS s x).1.t = term → (ansS s x).1.v = F) := by
  have ht := ansS_term s x
  refine ⟨by omega, fun e => ?_⟩
  have hs : s.t = term := by omega
  have hv := h2 hs
  by_cases hp : x.p = true
  · rw [ansS_pre s x hp]; exact hv
  · have hp' : x.p = false := by simpa using hp
    cases hok : (ansS s x).2
    · rw [ansS_no s x hok, if_neg (by omega), hv]
    · obtain ⟨_, e2, _, e4⟩ := ansS_ok s x hp' hok
      rcases e4 (by omega) with h | h
      · omega
      · rw [e2, ← h, hv]
/-- A step in which nothing is noted. -/
theorem oneInv_skip {V : List Nat} {A : List Ak} {term : Nat} {S : List Se} {LL : List (List Nat)} {v : Nat} {s : Se} (h : OneInv V A term S LL) (hs : S[v]? = some s) (x : Ak) : OneInv V A term (S.set v (ansS s x).1) LL := fun v' id s' hv' hs' => by
  by_cases e : v' = v
  · subst e
    have hlt := (List.getElem?_eq_some_iff.1 hs).1
    obtain rfl : (ansS s x).1 = s' := by simpa [hlt] using hs'
    obtain ⟨F, hF⟩ := h v' id s hv' hs
    refine ⟨F, fun j y l hy hl hid => ?_⟩
    obtain ⟨e1, e2, e3, e4⟩ := hF j y l hy hl hid
    obtain ⟨q1, q2⟩ := ansS_quiet s x F term e2 e3 e4
    exact ⟨e1, e2, q1, q2⟩
  · rw [List.getElem?_set_ne (Ne.symm e)] at hs'
    exact h v' id s' hv' hs'
/-- A step in which a vote is noted. -/
theorem oneInv_note {V : List Nat} {A : List Ak} {term : Nat} {S : List Se} {LL : List (List Nat)} {v a id : Nat} {s : Se} {x : Ak} {l : List Nat} (hV : V.Nodup) (h : OneInv V A term S LL) (hs : S[v]? = some s) (hid : V[v]? = some id) (hx : A[a]? = some x) (hl : LL[a]? = some l)
    (hok : (ansS s x).2 = true) (hp : x.p = false) (ht : x.t = term) : OneInv V A term (S.set v (ansS s x).1) (LL.set a (l ++ [id])) := fun v' id' s' hv' hs' => by
  obtain ⟨e1, e2, e3, e4⟩ := ansS_ok s x hp hok
  have hmono := ansS_term s x
  by_cases e : v' = v
  · subst e
    have hlt := (List.getElem?_eq_some_iff.1 hs).1
    obtain rfl : (ansS s x).1 = s' := by simpa [hlt] using hs'
    obtain rfl : id = id' := by rw [hid] at hv'; exact Option.some.inj hv'
    obtain ⟨F, hF⟩ := h v' id s hv' hs
    refine ⟨x.fr, fun j y m hy hm hidm => ?_⟩
    have key : ∀ (j : Nat) (y : Ak) (m : List Nat), A[j]? = some y → LL[j]? = some m → id ∈ m → y.fr = x.fr := fun j y m hy hm hidm => by
      obtain ⟨f1, f2, f3, f4⟩ := hF j y m hy hm hidm
      have hst : s.t = term := by omega
      rcases e4 (by omega) with h | h
      · rw [f4 hst] at h; exact absurd h f2
      · rw [f1, ← f4 hst, h]
    refine ⟨?_, e3, by omega, fun _ => e2⟩
    by_cases hja : j = a
    · subst hja; rw [hx] at hy; rw [Option.some.inj hy]
    · rw [List.getElem?_set_ne (Ne.symm hja)] at hm
      exact key j y m hy hm hidm
  · rw [List.getElem?_set_ne (Ne.symm e)] at hs'
    obtain ⟨F, hF⟩ := h v' id' s' hv' hs'
    refine ⟨F, fun j y m hy hm hidm => ?_⟩
    by_cases hja : j = a
    · subst hja
      have hlt := (List.getElem?_eq_some_iff.1 hl).1
      obtain rfl : l ++ [id] = m := by simpa [hlt] using hm
      rcases List.mem_append.1 hidm with hidm | hidm
      · exact hF j y l hy hl hidm
      · obtain rfl : id' = id := by simpa using hidm
        exfalso
        exact e (nodup_at hV hv' hid)
    · rw [List.getElem?_set_ne (Ne.symm hja)] at hm
      exact hF j y m hy hm hidm
/-- Two majorities meet. -/
theorem most_meet {V I J : List Nat} (h1 : mostB V I = true) (h2 : mostB V J = true) : ∃ x, x ∈ V ∧ x ∈ I ∧ x ∈ J := by
  refine Classical.byContradiction fun hno => ?_
  unfold mostB at h1 h2
  simp only [decide_eq_true_eq] at h1 h2
  rw [← fr_len] at h1 h2
  have m1 := fun x => fr_mem V I x I.length (Nat.le_refl _)
  have m2 := fun x => fr_mem V J x J.length (Nat.le_refl _)
  simp only [List.take_length] at m1 m2
  have hnd : (fr V I I.length ++ fr V J J.length).Nodup := List.nodup_append.2 ⟨fr_nodup V I _ (Nat.le_refl _), fr_nodup V J _ (Nat.le_refl _), fun a ha b hb e => by
    subst e
    exact hno ⟨a, ((m1 a).1 ha).1, ((m1 a).1 ha).2, ((m2 a).1 hb).2⟩⟩
  have hsub : ∀ x ∈ fr V I I.length ++ fr V J J.length, x ∈ V := fun x hx => by
    rcases List.mem_append.1 hx with hx | hx
    · exact ((m1 x).1 hx).1
    · exact ((m2 x).1 hx).1
  have := nodup_le hnd hsub
  rw [List.length_append] at this
  omega
/-- So two nodes that are each granted by a majority are one. -/
theorem oneInv_end {V : List Nat} {A : List Ak} {term : Nat} {S : List Se} {LL : List (List Nat)} (h : OneInv V A term S LL) (hS : S.length = V.length) {i j : Nat} {x y : Ak} {l m : List Nat} (hx : A[i]? = some x) (hy : A[j]? = some y) (hl : LL[i]? = some l) (hm : LL[j]? = some m)
    (h1 : mostB V l = true) (h2 : mostB V m = true) : x.fr = y.fr := by
  obtain ⟨id, q1, q2, q3⟩ := most_meet h1 h2
  obtain ⟨v, hv⟩ := List.mem_iff_getElem?.1 q1
  have hlt := (List.getElem?_eq_some_iff.1 hv).1
  obtain ⟨F, hF⟩ := h v id _ hv (List.getElem?_eq_getElem (show v < S.length by omega))
  rw [(hF i x l hx hl q2).1, (hF j y m hy hm q3).1]
end Go.Proofs.Ytmcmanjniloeaaa
