/- Locks, in plain words: layer 12's mathematics. -/
import Derived.Handy
namespace Go.Proofs.Ytohhkacnjhgamaa

/-- A transaction. -/
structure Tx where
  age : Nat
  id : Nat
deriving DecidableEq
/-- A lock. -/
structure Ho where
  key : ByteArray
  t : Tx
  wr : Bool
/-- Who is the elder. -/
def eldT (a b : Tx) : Bool := if a.age = b.age then decide (a.id < b.id) else decide (a.age < b.age)
theorem eld_irrefl (a : Tx) : eldT a a = false := by simp [eldT]
theorem eld_trans {a b c : Tx} (h1 : eldT a b = true) (h2 : eldT b c = true) : eldT a c = true := by
  unfold eldT at *
  split at h1 <;> split at h2 <;> split <;> simp only [decide_eq_true_eq] at * <;> omega
theorem eld_one {a b : Tx} (h : a ≠ b) : eldT a b = !eldT b a := by
  have h2 : ¬ (a.age = b.age ∧ a.id = b.id) := fun e => h (by cases a; cases b; simp only at e; rw [e.1, e.2])
  unfold eldT
  by_cases e : a.age = b.age
  · rw [if_pos e, if_pos e.symm]
    by_cases h3 : a.id < b.id
    · rw [decide_eq_true h3, decide_eq_false (by omega)]; rfl
    · rw [decide_eq_false h3, decide_eq_true (by omega)]; rfl
  · rw [if_neg e, if_neg (fun h => e h.symm)]
    by_cases h3 : a.age < b.age
    · rw [decide_eq_true h3, decide_eq_false (by omega)]; rfl
    · rw [decide_eq_false h3, decide_eq_true (by omega)]; rfl
/-- Numbers that a word holds; a key that isn't too long. -/
def okX (t : Tx) : Prop := t.age < 18446744073709551616 ∧ t.id < 18446744073709551616
def okA (k : ByteArray) (t : Tx) : Prop := k.size ≤ 140737488351232 ∧ okX t
def smallH (L : List Ho) : Prop := ∀ x ∈ L, okA x.key x.t
/-- Whether a transaction is in a list. -/
def amT (t : Tx) : List Tx → Bool
  | [] => false
  | x :: r => decide (x = t) || amT t r
theorem amT_iff (t : Tx) : ∀ L, amT t L = true ↔ t ∈ L
  | [] => by simp [amT]
  | x :: r => by
    simp only [amT, Bool.or_eq_true, decide_eq_true_eq, amT_iff t r, List.mem_cons]
    exact ⟨fun h => h.imp Eq.symm id, fun h => h.imp Eq.symm id⟩
/-- Whether a lock is in the way. -/
def inW (h : Ho) (t : Tx) (key : ByteArray) (wr : Bool) : Bool := decide (h.key = key) && (!decide (h.t = t) && (h.wr || wr))
/-- Where the first lock of one's own of a key lies. -/
def idxH (t : Tx) (key : ByteArray) : Nat → List Ho → Option Nat
  | _, [] => none
  | i, x :: r => if x.t = t ∧ x.key = key then some i else idxH t key (i + 1) r
/-- Whether one has a lock. -/
def hasH (t : Tx) (key : ByteArray) (wr : Bool) : List Ho → Bool
  | [] => false
  | x :: r => (decide (x.t = t) && (decide (x.key = key) && (x.wr || !wr))) || hasH t key wr r
/-- The locks of others. -/
def dropH (t : Tx) (L : List Ho) : List Ho := L.filter fun x => !decide (x.t = t)
theorem dropH_len (t : Tx) (L : List Ho) : (dropH t L).length ≤ L.length := List.length_filter_le _ _
/-- Those who must give way, behind others; none if one is kept waiting. -/
def wayH (t : Tx) (key : ByteArray) (wr : Bool) (firm : List Tx) : List Tx → List Ho → Option (List Tx)
  | out, [] => some out
  | out, x :: r => if inW x t key wr then
      (if amT x.t firm || !eldT t x.t then none else wayH t key wr firm (if amT x.t out then out else out ++ [x.t]) r)
    else wayH t key wr firm out r
/-- The locks that are left, the one at a place raised; whether it was. -/
def leftH (hs : Option Nat) (out : List Tx) : Nat → List Ho → List Ho × Bool
  | _, [] => ([], false)
  | i, x :: r => if amT x.t out then leftH hs out (i + 1) r
    else if hs = some i then (⟨x.key, x.t, true⟩ :: (leftH hs out (i + 1) r).1, true)
    else (x :: (leftH hs out (i + 1) r).1, (leftH hs out (i + 1) r).2)
/-- Whether one has already what is asked for. -/
def hadH (L : List Ho) (hs : Option Nat) (wr : Bool) : Bool := match hs with
  | none => false
  | some i => match L[i]? with
    | none => false
    | some x => x.wr || !wr
/-- What Ask answers. -/
def askH (L : List Ho) (t : Tx) (key : ByteArray) (wr : Bool) (firm : List Tx) : List Ho × List Tx × Nat :=
  if hadH L (idxH t key 0 L) wr then (L, [], 0) else
  match wayH t key wr firm [] L with
  | none => (L, [], 11)
  | some out =>
    if (leftH (idxH t key 0 L) out 0 L).2 then ((leftH (idxH t key 0 L) out 0 L).1, out, 0)
    else if 48 ≤ (leftH (idxH t key 0 L) out 0 L).1.length then (L, [], 5)
    else ((leftH (idxH t key 0 L) out 0 L).1 ++ [⟨key, t, wr⟩], out, 0)
/-- Whether a lock may be beside others. -/
def besH (x : Ho) (i : Nat) : Nat → List Ho → Bool
  | _, [] => true
  | k, y :: r => if inW y x.t x.key x.wr = true ∨ (i ≠ k ∧ x.t = y.t ∧ x.key = y.key) then false else besH x i (k + 1) r
/-- Whether a list is right. -/
def rightF (L : List Ho) : Nat → List Ho → Bool
  | _, [] => true
  | i, x :: r => if besH x i 0 L then rightF L (i + 1) r else false
def rightH (L : List Ho) : Bool := rightF L 0 L
end Go.Proofs.Ytohhkacnjhgamaa
