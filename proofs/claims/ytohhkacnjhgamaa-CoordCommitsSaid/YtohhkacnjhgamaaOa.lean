/- The coordinator in plain words: layer 14's mathematics. -/
import Derived.Test.YtohhkacnjhgamaaVa
namespace Go.Proofs.Ytohhkacnjhgamaa

/-- A deal; an order, as far as a coordinator looks at it. -/
structure Dl where
  t : Tx
  parts : List Nat
  st : Int
structure Cod where
  kind : Int
  t : Tx
  parts : List Nat
  cm : Bool
/-- Strictly ascending, each from 1 to 63, behind a number. -/
def ascP : Nat → List Nat → Bool
  | _, [] => true
  | p, x :: r => decide (p < x) && (decide (x ≤ 63) && ascP x r)
def mayC (l : List Nat) : Bool := decide (1 ≤ l.length) && (decide (l.length ≤ 8) && ascP 0 l)
def fndC (t : Tx) : List Dl → Option Dl
  | [] => none
  | x :: r => if x.t = t then some x else fndC t r
def setC (t : Tx) (st : Int) : List Dl → List Dl
  | [] => []
  | x :: r => if x.t = t then ⟨x.t, x.parts, st⟩ :: r else x :: setC t st r
/-- What becomes of a state that somebody asks for or decides. -/
def endC (st : Int) (commit : Bool) : Int := if st = 0 then (if commit then 1 else 2) else st
/-- Do: the deals, the error, what is told. -/
def doC (L : List Dl) (o : Cod) : List Dl × Nat × Bool :=
  if o.kind = 5 then
    if mayC o.parts = false then (L, 1, false)
    else match fndC o.t L with
      | some d => if d.st ≠ 0 then (L, 13, decide (d.st = 1)) else if d.parts = o.parts then (L, 0, false) else (L, 8, false)
      | none => if 64 ≤ L.length then (L, 5, false) else (L ++ [⟨o.t, o.parts, 0⟩], 0, false)
  else if o.kind ≠ 6 ∧ o.kind ≠ 7 then (L, 1, false)
  else match fndC o.t L with
    | none => if (o.cm && decide (o.kind = 6)) = true then (L, 7, false) else if 64 ≤ L.length then (L, 5, false) else (L ++ [⟨o.t, [], 2⟩], 0, false)
    | some d => (setC o.t (endC d.st (o.cm && decide (o.kind = 6))) L, 0, decide (endC d.st (o.cm && decide (o.kind = 6)) = 1))
/-- One deal may be so. -/
def dlOk (d : Dl) : Bool := decide (0 ≤ d.st ∧ d.st ≤ 2) && (mayC d.parts || (decide (d.parts.length = 0) && decide (d.st = 2)))
def dstC : List Tx → List Dl → Bool
  | _, [] => true
  | p, x :: r => (p.all fun y => !decide (y = x.t)) && dstC (p ++ [x.t]) r
def rightC (L : List Dl) : Bool := decide (L.length ≤ 64) && (dstC [] L && L.all dlOk)
theorem fnd_t {t : Tx} : ∀ {L : List Dl} {d : Dl}, fndC t L = some d → d.t = t
  | [], _, h => by simp [fndC] at h
  | x :: r, d, h => by
    rw [fndC] at h
    split at h
    · obtain rfl := Option.some.inj h; assumption
    · exact fnd_t h
theorem fnd_mem {t : Tx} : ∀ {L : List Dl} {d : Dl}, fndC t L = some d → d ∈ L
  | [], _, h => by simp [fndC] at h
  | x :: r, d, h => by
    rw [fndC] at h
    split at h
    · obtain rfl := Option.some.inj h; simp
    · simp [fnd_mem h]
theorem fnd_app (t : Tx) : ∀ (L M : List Dl), fndC t (L ++ M) = (fndC t L).or (fndC t M)
  | [], M => by simp [fndC]
  | x :: r, M => by
    rw [List.cons_append, fndC, fndC]
    split
    · rfl
    · exact fnd_app t r M
theorem set_len (t : Tx) (st : Int) : ∀ L : List Dl, (setC t st L).length = L.length
  | [] => rfl
  | x :: r => by rw [setC]; split <;> simp [set_len t st r]
theorem fnd_set_same (t : Tx) (st : Int) : ∀ {L : List Dl} {d : Dl}, fndC t L = some d → fndC t (setC t st L) = some ⟨d.t, d.parts, st⟩
  | [], _, h => by simp [fndC] at h
  | x :: r, d, h => by
    rw [fndC] at h
    rw [setC]
    by_cases hx : x.t = t
    · rw [if_pos hx] at h
      rw [if_pos hx, fndC, if_pos hx]
      obtain rfl := Option.some.inj h; rfl
    · rw [if_neg hx] at h
      rw [if_neg hx, fndC, if_neg hx]
      exact fnd_set_same t st h
theorem fnd_set_other {t u : Tx} (st : Int) (h : ¬ u = t) : ∀ L : List Dl, fndC t (setC u st L) = fndC t L
  | [] => rfl
  | x :: r => by
    rw [setC]
    by_cases hx : x.t = u
    · rw [if_pos hx, fndC, fndC, if_neg (by simp only; rw [hx]; exact h), if_neg (by rw [hx]; exact h)]
    · rw [if_neg hx, fndC, fndC, fnd_set_other st h r]
/-- CoordApart: an order of one changes nothing of another one's. -/
theorem apart_fnd (L : List Dl) (o : Cod) {t : Tx} (h : ¬ o.t = t) : fndC t (doC L o).1 = fndC t L := by
  have hone : ∀ d : Dl, d.t = o.t → fndC t (L ++ [d]) = fndC t L := fun d hd => by
    rw [fnd_app, fndC, if_neg (by rw [hd]; exact h)]
    cases fndC t L <;> rfl
  unfold doC
  split
  · split
    · rfl
    split
    · split
      · rfl
      split <;> rfl
    · split
      · rfl
      · exact hone _ rfl
  split
  · rfl
  split
  · split
    · rfl
    split
    · rfl
    · exact hone _ rfl
  · exact fnd_set_other _ h L
theorem apart_len (L : List Dl) (o : Cod) : L.length ≤ (doC L o).1.length := by
  unfold doC
  split
  · split
    · exact Nat.le_refl _
    split
    · split
      · exact Nat.le_refl _
      split <;> exact Nat.le_refl _
    · split
      · exact Nat.le_refl _
      · simp
  split
  · exact Nat.le_refl _
  split
  · split
    · exact Nat.le_refl _
    split
    · exact Nat.le_refl _
    · simp
  · simp only [set_len]; exact Nat.le_refl _
theorem apart_err (L : List Dl) (o : Cod) (h : (doC L o).2.1 ≠ 0) : (doC L o).1 = L := by
  unfold doC at h ⊢
  split
  · rename_i h5
    rw [if_pos h5] at h
    split
    · rfl
    rename_i hm
    rw [if_neg hm] at h
    split
    · split
      · rfl
      split <;> rfl
    · rename_i hf
      rw [hf] at h
      split
      · rfl
      · rename_i hl
        simp only [if_neg hl] at h; exact absurd rfl h
  rename_i h5
  rw [if_neg h5] at h
  split
  · rfl
  rename_i h6
  rw [if_neg h6] at h
  split
  · rename_i hf
    rw [hf] at h
    split
    · rfl
    rename_i hc
    simp only [if_neg hc] at h
    split
    · rfl
    · rename_i hl
      rw [if_neg hl] at h; exact absurd rfl h
  · rename_i d hf
    rw [hf] at h; exact absurd rfl h
end Go.Proofs.Ytohhkacnjhgamaa
