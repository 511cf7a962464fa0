/- Locks, in plain words: layer 12's mathematics. -/
import Derived.Handy
namespace Go.Proofs.Ythgnecggdlamfaa

/-- A transaction. -/
structure Tx where
  age : Nat
  id : Nat
deriving DecidableEq
/-- A lock. -/
structure Ho where
  key : ByteArray
  t : Tx
  wr : Bool
/-- Who is the elder. -/
def eldT (a b : Tx) : Bool := if a.age = b.age then decide (a.id < b.id) else decide (a.age < b.age)
theorem eld_irrefl (a : Tx) : eldT a a = false := by simp [eldT]
theorem eld_trans {a b c : Tx} (h1 : eldT a b = true) (h2 : eldT b c = true) : eldT a c = true := by
  unfold eldT at *
  split at h1 <;> split at h2 <;> split <;> simp only [decide_eq_true_eq] at * <;> omega
theorem eld_one {a b : Tx} (h : a ≠ b) : eldT a b = !eldT b a := by
  have h2 : ¬ (a.age = b.age ∧ a.id = b.id) := fun e => h (by cases a; cases b; simp only at e; rw [e.1, e.2])
  unfold eldT
  by_cases e : a.age = b.age
  · rw [if_pos e, if_pos e.symm]
    by_cases h3 : a.id < b.id
    · rw [decide_eq_true h3, decide_eq_false (by omega)]; rfl
    · rw [decide_eq_false h3, decide_eq_true (by omega)]; rfl
  · rw [if_neg e, if_neg (fun h => e h.symm)]
    by_cases h3 : a.age < b.age
    · rw [decide_eq_true h3, decide_eq_false (by omega)]; rfl
    · rw [decide_eq_false h3, decide_eq_true (by omega)]; rfl
/-- Numbers that a word holds; a key that isn't too long. -/
def okX (t : Tx) : Prop := t.age < 18446744073709551616 ∧ t.id < 18446744073709551616
def okA (k : ByteArray) (t : Tx) : Prop := k.size ≤ 140737488351232 ∧ okX t
def smallH (L : List Ho) : Prop := ∀ x ∈ L, okA x.key x.t
/-- Whether a transaction is in a list. -/
def amT (t : Tx) : List Tx → Bool
  | [] => false
  | x :: r => decide (x = t) || amT t r
theorem amT_iff (t : Tx) : ∀ L, amT t L = true ↔ t ∈ L
  | [] => by simp [amT]
  | x :: r => by
    simp only [amT, Bool.or_eq_true, decide_eq_true_eq, amT_iff t r, List.mem_cons]
    exact ⟨fun h => h.imp Eq.symm id, fun h => h.imp Eq.symm id⟩
/-- Whether a lock is in the way. -/
def inW (h : Ho) (t : Tx) (key : ByteArray) (wr : Bool) : Bool := decide (h.key = key) && (!decide (h.t = t) && (h.wr || wr))
/-- Where the first lock of one's own of a key lies. -/
def idxH (t : Tx) (key : ByteArray) : Nat → List Ho → Option Nat
  | _, [] => none
  | i, x :: r => if x.t = t ∧ x.key = key then some i else idxH t key (i + 1) r
/-- Whether one has a lock. -/
def hasH (t : Tx) (key : ByteArray) (wr : Bool) : List Ho → Bool
  | [] => false
  | x :: r => (decide (x.t = t) && (decide (x.key = key) && (x.wr || !wr))) || hasH t key wr r
/-- The locks of others. -/
def dropH (t : Tx) (L : List Ho) : List Ho := L.filter fun x => !decide (x.t = t)
theorem dropH_len (t : Tx) (L : List Ho) : (dropH t L).length ≤ L.length := List.length_filter_le _ _
/-- Those who must give way, behind others; none if one is kept waiting. -/
def wayH (t : Tx) (key : ByteArray) (wr : Bool) (firm : List Tx) : List Tx → List Ho → Option (List Tx)
  | out, [] => some out
  | out, x :: r => if inW x t key wr then
      (if amT x.t firm || !eldT t x.t then none else wayH t key wr firm (if amT x.t out then out else out ++ [x.t]) r)
    else wayH t key wr firm out r
/-- The locks that are left, the one at a place raised; whether it was. -/
def leftH (hs : Option Nat) (out : List Tx) : Nat → List Ho → List Ho × Bool
  | _, [] => ([], false)
  | i, x :: r => if amT x.t out then leftH hs out (i + 1) r
    else if hs = some i then (⟨x.key, x.t, true⟩ :: (leftH hs out (i + 1) r).1, true)
    else (x :: (leftH hs out (i + 1) r).1, (leftH hs out (i + 1) r).2)
/-- Whether one has already what is asked for. -/
def hadH (L : List Ho) (hs : Option Nat) (wr : Bool) : Bool := match hs with
  | none => false
  | some i => match L[i]? with
    | none => false
    | some x => x.wr || !wr
/-- What Ask answers. -/
def askH (L : List Ho) (t : Tx) (key : ByteArray) (wr : Bool) (firm : List Tx) : List Ho × List Tx × Nat :=
  if hadH L (idxH t key 0 L) wr then (L, [], 0) else
  match wayH t key wr firm [] L with
  | none => (L, [], 11)
  | some out =>
    if (leftH (idxH t key 0 L) out 0 L).2 then ((leftH (idxH t key 0 L) out 0 L).1, out, 0)
    else if 48 ≤ (leftH (idxH t key 0 L) out 0 L).1.length then (L, [], 5)
    else ((leftH (idxH t key 0 L) out 0 L).1 ++ [⟨key, t, wr⟩], out, 0)
/-- Whether a lock may be beside others. -/
def besH (x : Ho) (i : Nat) : Nat → List Ho → Bool
  | _, [] => true
  | k, y :: r => if inW y x.t x.key x.wr = true ∨ (i ≠ k ∧ x.t = y.t ∧ x.key = y.key) then false else besH x i (k + 1) r
/-- Whether a list is right. -/
def rightF (L : List Ho) : Nat → List Ho → Bool
  | _, [] => true
  | i, x :: r => if besH x i 0 L then rightF L (i + 1) r else false
def rightH (L : List Ho) : Bool := rightF L 0 L
end Go.Proofs.Ythgnecggdlamfaa
/- Layer 12's laws in plain words: what is left when locks are asked for. -/
namespace Go.Proofs.Ythgnecggdlamfaa

/-- The locks of those who aren't in a list. -/
def restH (out : List Tx) (L : List Ho) : List Ho := L.filter fun x => !amT x.t out
/-- The first lock of one's own of a key raised. -/
def raiseH (t : Tx) (key : ByteArray) : List Ho → List Ho
  | [] => []
  | x :: r => if x.t = t ∧ x.key = key then ⟨x.key, x.t, true⟩ :: r else x :: raiseH t key r
theorem idx_ge (t : Tx) (key : ByteArray) : ∀ (L : List Ho) (i j : Nat), idxH t key i L = some j → i ≤ j
  | [], i, j, h => by simp [idxH] at h
  | x :: r, i, j, h => by
    simp only [idxH] at h
    split at h
    · simp at h; omega
    · have := idx_ge t key r _ _ h; omega
theorem left_past (out : List Tx) (j : Nat) : ∀ (L : List Ho) (i : Nat), j < i → leftH (some j) out i L = (restH out L, false)
  | [], i, _ => rfl
  | x :: r, i, h => by
    have ih := left_past out j r (i + 1) (by omega)
    have hne : ¬ (some j : Option Nat) = some i := fun e => by have := Option.some.inj e; omega
    simp only [leftH, ih, restH, List.filter_cons]
    rcases hg : amT x.t out with _ | _
    · simp [hne]
    · simp
theorem left_none (out : List Tx) : ∀ (L : List Ho) (i : Nat), leftH none out i L = (restH out L, false)
  | [], i => rfl
  | x :: r, i => by
    have ih := left_none out r (i + 1)
    simp only [leftH, ih, restH, List.filter_cons]
    rcases hg : amT x.t out with _ | _ <;> simp
theorem left_is {t : Tx} {key : ByteArray} {out : List Tx} (ht : amT t out = false) : ∀ (L : List Ho) (i : Nat), leftH (idxH t key i L) out i L = (raiseH t key (restH out L), (idxH t key i L).isSome)
  | [], i => rfl
  | x :: r, i => by
    by_cases h : x.t = t ∧ x.key = key
    · have e : idxH t key i (x :: r) = some i := by simp only [idxH, if_pos h]
      have hg : amT x.t out = false := by rw [h.1]; exact ht
      rw [e]
      simp only [leftH, hg, restH, List.filter_cons, left_past out i r (i + 1) (Nat.lt_succ_self i)]
      simp [raiseH, h]
    · have e : idxH t key i (x :: r) = idxH t key (i + 1) r := by simp only [idxH, if_neg h]
      rw [e]
      have hne : ¬ idxH t key (i + 1) r = some i := fun e2 => by have := idx_ge t key r _ _ e2; omega
      have ih := left_is ht r (i + 1) (key := key)
      simp only [leftH, restH, List.filter_cons, if_neg hne] at ih ⊢
      rcases hg : amT x.t out with _ | _
      · simp [ih, raiseH, h]
      · simp [ih]
/-- Who must give way: each is in the way, younger, not firm; whoever is in the way is among them. -/
theorem way_some {t : Tx} {key : ByteArray} {wr : Bool} {firm : List Tx} : ∀ (L : List Ho) (o out : List Tx), wayH t key wr firm o L = some out →
    (∀ x ∈ L, inW x t key wr = true → x.t ∈ out) ∧ (∀ z ∈ o, z ∈ out) ∧ (∀ z ∈ out, z ∈ o ∨ (z ≠ t ∧ eldT t z = true ∧ amT z firm = false ∧ ∃ x ∈ L, x.t = z))
  | [], o, out, h => by
    obtain rfl : o = out := by simpa [wayH] using h
    exact ⟨by simp, fun z hz => hz, fun z hz => .inl hz⟩
  | x :: r, o, out, h => by
    simp only [wayH] at h
    by_cases hw : inW x t key wr = true
    · rw [if_pos hw] at h
      by_cases hs : (amT x.t firm || !eldT t x.t) = true
      · rw [if_pos hs] at h; cases h
      rw [if_neg hs] at h
      have hs2 : amT x.t firm = false ∧ eldT t x.t = true := by
        rcases h1 : amT x.t firm with _ | _ <;> rcases h2 : eldT t x.t with _ | _ <;> simp [h1, h2] at hs ⊢
      obtain ⟨a1, a2, a3⟩ := way_some r _ _ h
      have hne : x.t ≠ t := by
        simp only [inW, Bool.and_eq_true, Bool.not_eq_true', decide_eq_false_iff_not] at hw
        exact hw.2.1
      have hin : x.t ∈ out := by
        by_cases hm : amT x.t o = true
        · exact a2 _ (by rw [if_pos hm]; exact (amT_iff _ _).1 hm)
        · exact a2 _ (by rw [if_neg hm]; simp)
      refine ⟨fun y hy hyw => ?_, fun z hz => ?_, fun z hz => ?_⟩
      · rcases List.mem_cons.1 hy with e | e
        · rw [e]; exact hin
        · exact a1 y e hyw
      · exact a2 z (by split; exact hz; exact List.mem_append.2 (.inl hz))
      · rcases a3 z hz with e | ⟨e1, e2, e3, y, hy, e4⟩
        · split at e
          · exact .inl e
          · rcases List.mem_append.1 e with e | e
            · exact .inl e
            · obtain rfl : z = x.t := by simpa using e
              exact .inr ⟨hne, hs2.2, hs2.1, x, by simp, rfl⟩
        · exact .inr ⟨e1, e2, e3, y, by simp [hy], e4⟩
    · rw [if_neg hw] at h
      obtain ⟨a1, a2, a3⟩ := way_some r _ _ h
      refine ⟨fun y hy hyw => ?_, a2, fun z hz => ?_⟩
      · rcases List.mem_cons.1 hy with e | e
        · rw [e] at hyw; exact absurd hyw hw
        · exact a1 y e hyw
      · rcases a3 z hz with e | ⟨e1, e2, e3, y, hy, e4⟩
        · exact .inl e
        · exact .inr ⟨e1, e2, e3, y, by simp [hy], e4⟩
/-- Nobody keeps the eldest waiting. -/
theorem way_eldest {t : Tx} {key : ByteArray} {wr : Bool} {firm : List Tx} : ∀ (L : List Ho) (o : List Tx), (∀ x ∈ L, x.t = t ∨ (eldT t x.t = true ∧ amT x.t firm = false)) → wayH t key wr firm o L ≠ none
  | [], o, _ => by simp [wayH]
  | x :: r, o, h => by
    simp only [wayH]
    by_cases hw : inW x t key wr = true
    · rw [if_pos hw]
      have hne : x.t ≠ t := by
        simp only [inW, Bool.and_eq_true, Bool.not_eq_true', decide_eq_false_iff_not] at hw
        exact hw.2.1
      rcases h x (by simp) with e | ⟨e1, e2⟩
      · exact absurd e hne
      · rw [if_neg (by simp [e1, e2])]
        exact way_eldest r _ (fun y hy => h y (by simp [hy]))
    · rw [if_neg hw]; exact way_eldest r _ (fun y hy => h y (by simp [hy]))
theorem ask_eldest {L : List Ho} {t : Tx} {key : ByteArray} {wr : Bool} {firm : List Tx} (h : ∀ x ∈ L, x.t = t ∨ (eldT t x.t = true ∧ amT x.t firm = false)) : (askH L t key wr firm).2.2 = 0 ∨ (askH L t key wr firm).2.2 = 5 := by
  unfold askH
  split
  · exact .inl rfl
  rcases hw : wayH t key wr firm [] L with _ | out
  · exact absurd hw (way_eldest L [] h)
  · simp only
    split
    · exact .inl rfl
    split
    · exact .inr rfl
    · exact .inl rfl
theorem way_len {t : Tx} {key : ByteArray} {wr : Bool} {firm : List Tx} : ∀ (L : List Ho) (o out : List Tx), wayH t key wr firm o L = some out → out.length ≤ o.length + L.length
  | [], o, out, h => by
    obtain rfl : o = out := by simpa [wayH] using h
    simp
  | x :: r, o, out, h => by
    simp only [wayH] at h
    split at h
    · split at h
      · cases h
      · have := way_len r _ _ h
        split at this
        · simp only [List.length_cons]; omega
        · rw [List.length_append, List.length_singleton] at this
          simp only [List.length_cons]; omega
    · have := way_len r _ _ h
      simp only [List.length_cons]; omega
theorem way_ok {t : Tx} {key : ByteArray} {wr : Bool} {firm : List Tx} : ∀ (L : List Ho) (o out : List Tx), smallH L → (∀ z ∈ o, okX z) → wayH t key wr firm o L = some out → ∀ z ∈ out, okX z
  | [], o, out, _, ho, h => by
    obtain rfl : o = out := by simpa [wayH] using h
    exact ho
  | x :: r, o, out, hs, ho, h => by
    have hr : smallH r := fun y hy => hs y (by simp [hy])
    simp only [wayH] at h
    split at h
    · split at h
      · cases h
      · refine way_ok r _ _ hr ?_ h
        split
        · exact ho
        · intro z hz
          rcases List.mem_append.1 hz with h1 | h1
          · exact ho z h1
          · obtain rfl : z = x.t := by simpa using h1
            exact (hs x (by simp)).2
    · exact way_ok r _ _ hr ho h
end Go.Proofs.Ythgnecggdlamfaa
