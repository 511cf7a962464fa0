/- Rows and puts, in plain words: layer 11's mathematics. -/
import Derived.Handy
namespace Go.Proofs.YtifdgjmbecilhaaDoor

/-- A row. -/
structure Ro where
  key : ByteArray
  val : ByteArray
  ver : Nat
/-- A put. -/
structure Pu where
  key : ByteArray
  val : ByteArray
  gone : Bool
/-- Whether bytes are ahead of other ones. -/
def lessL : List UInt8 → List UInt8 → Bool
  | _, [] => false
  | [], _ :: _ => true
  | a :: r, b :: s => if a = b then lessL r s else decide (a.toNat < b.toNat)
theorem lessL_irrefl : ∀ l, lessL l l = false
  | [] => rfl
  | a :: r => by rw [lessL, if_pos rfl]; exact lessL_irrefl r
theorem lessL_trans : ∀ a b c, lessL a b = true → lessL b c = true → lessL a c = true
  | _, _, [], _, h => by rename_i b _; cases b <;> simp [lessL] at h
  | [], b, c :: t, h1, h2 => rfl
  | x :: r, [], c :: t, h1, h2 => by simp [lessL] at h1
  | x :: r, y :: s, z :: t, h1, h2 => by
    simp only [lessL] at h1 h2 ⊢
    by_cases e1 : x = y
    · subst e1
      rw [if_pos rfl] at h1
      by_cases e2 : x = z
      · subst e2
        rw [if_pos rfl] at h2 ⊢
        exact lessL_trans r s t h1 h2
      · rw [if_neg e2] at h2 ⊢
        exact h2
    · rw [if_neg e1] at h1
      have l1 := of_decide_eq_true h1
      by_cases e2 : y = z
      · subst e2
        rw [if_neg e1]; exact h1
      · rw [if_neg e2] at h2
        have l2 := of_decide_eq_true h2
        rw [if_neg (fun e => by subst e; omega)]
        exact decide_eq_true (by omega)
theorem lessL_total : ∀ a b, lessL a b = false → lessL b a = false → a = b
  | [], [], _, _ => rfl
  | [], _ :: _, h, _ => by simp [lessL] at h
  | _ :: _, [], _, h => by simp [lessL] at h
  | x :: r, y :: s, h1, h2 => by
    simp only [lessL] at h1 h2
    by_cases e : x = y
    · subst e
      rw [if_pos rfl] at h1 h2
      rw [lessL_total r s h1 h2]
    · rw [if_neg e] at h1
      rw [if_neg (fun h => e h.symm)] at h2
      have l1 := of_decide_eq_false h1
      have l2 := of_decide_eq_false h2
      exact absurd (UInt8.toNat_inj.1 (by omega)) e
theorem ba_ext {a b : ByteArray} (h : a.data.toList = b.data.toList) : a = b := by
  cases a; cases b; simp only [ByteArray.mk.injEq]; exact Array.toList_inj.1 h
/-- Whether a text is ahead of another one. -/
def lessB (a b : ByteArray) : Bool := lessL a.data.toList b.data.toList
theorem lessB_irrefl (a : ByteArray) : lessB a a = false := lessL_irrefl _
theorem lessB_trans {a b c : ByteArray} (h1 : lessB a b = true) (h2 : lessB b c = true) : lessB a c = true := lessL_trans _ _ _ h1 h2
theorem lessB_total {a b : ByteArray} (h1 : lessB a b = false) (h2 : lessB b a = false) : a = b := ba_ext (lessL_total _ _ h1 h2)
theorem lessB_ne {a b : ByteArray} (h : lessB a b = true) : a ≠ b := fun e => by subst e; rw [lessB_irrefl] at h; cases h
theorem lessB_asym {a b : ByteArray} (h : lessB a b = true) : lessB b a = false := by
  rcases h2 : lessB b a with _ | _
  · rfl
  · exact absurd (lessB_trans h h2) (by rw [lessB_irrefl]; decide)

/-- Whether a row may be. -/
def rowOk (x : Ro) : Bool := decide (1 ≤ x.key.size) && (decide (x.key.size ≤ 16) && (decide (x.val.size ≤ 32) && decide (x.ver ≤ 4611686018427387903)))
/-- Whether rows may be, and rise, behind a key. -/
def ascF : Option ByteArray → List Ro → Bool
  | _, [] => true
  | p, x :: r => rowOk x && ((match p with | none => true | some k => lessB k x.key) && ascF (some x.key) r)
/-- Whether a list is right. -/
def rightB (L : List Ro) : Bool := decide (L.length ≤ 32) && ascF none L
/-- The first row of a key. -/
def getR (k : ByteArray) : List Ro → Option Ro
  | [] => none
  | x :: r => if x.key = k then some x else getR k r
/-- Whether a put may be done. -/
def putOk (x : Pu) : Bool := decide (1 ≤ x.key.size) && (decide (x.key.size ≤ 16) && (decide (x.val.size ≤ 32) && !(x.gone && decide (0 < x.val.size))))
/-- Whether a key is among those of puts. -/
def keyIn (k : ByteArray) : List Pu → Bool
  | [] => false
  | x :: r => decide (x.key = k) || keyIn k r
/-- Whether puts may be done, behind others. -/
def fitF : List Pu → List Pu → Bool
  | _, [] => true
  | p, x :: r => putOk x && (!keyIn x.key p && fitF (p ++ [x]) r)
/-- The answer of Fits. -/
def fitsX (P : List Pu) : Nat := if 8 < P.length then 4 else if fitF [] P then 0 else 1
/-- A row in the place of the first of its key. -/
def setR (y : Ro) : List Ro → List Ro
  | [] => []
  | x :: r => if x.key = y.key then y :: r else x :: setR y r
/-- A row ahead of the first greater one. -/
def insR (y : Ro) : List Ro → List Ro
  | [] => [y]
  | x :: r => if lessB y.key x.key then y :: x :: r else x :: insR y r
/-- The rows of other keys. -/
def delR (k : ByteArray) : List Ro → List Ro
  | [] => []
  | x :: r => if x.key = k then delR k r else x :: delR k r
/-- What Do answers: rows, and an error. -/
def doR (L : List Ro) (p : Pu) (ver : Nat) : List Ro × Nat :=
  if fitsX [p] ≠ 0 then ([], fitsX [p])
  else if p.gone then (delR p.key L, 0)
  else if (getR p.key L).isSome then (setR ⟨p.key, p.val, ver⟩ L, 0)
  else if 32 ≤ L.length then ([], 5)
  else (insR ⟨p.key, p.val, ver⟩ L, 0)
/-- Puts of one kind, one behind the other. -/
def seqR (ver : Nat) : List Ro → List Pu → List Ro × Nat
  | L, [] => (L, 0)
  | L, p :: r => if (doR L p ver).2 = 0 then seqR ver (doR L p ver).1 r else ([], (doR L p ver).2)
/-- What All answers. -/
def allR (L : List Ro) (P : List Pu) (ver : Nat) : List Ro × Nat :=
  if fitsX P ≠ 0 then ([], fitsX P)
  else if (seqR ver L (P.filter fun p => p.gone)).2 = 0 then seqR ver (seqR ver L (P.filter fun p => p.gone)).1 (P.filter fun p => !p.gone)
  else ([], (seqR ver L (P.filter fun p => p.gone)).2)
theorem delR_len (k : ByteArray) : ∀ L, (delR k L).length ≤ L.length
  | [] => Nat.le_refl _
  | x :: r => by
    have := delR_len k r
    simp only [delR]; split <;> simp <;> omega
theorem setR_len (y : Ro) : ∀ L, (setR y L).length = L.length
  | [] => rfl
  | x :: r => by
    have := setR_len y r
    simp only [setR]; split <;> simp; omega
theorem insR_len (y : Ro) : ∀ L, (insR y L).length = L.length + 1
  | [] => rfl
  | x :: r => by
    have := insR_len y r
    simp only [insR]; split <;> simp; omega
theorem doR_len (L : List Ro) (p : Pu) (ver : Nat) : (doR L p ver).1.length ≤ L.length + 1 := by
  unfold doR
  split
  · simp
  split
  · have := delR_len p.key L; simp only; omega
  split
  · simp only; rw [setR_len]; omega
  split
  · simp
  · simp only; rw [insR_len]; omega
end Go.Proofs.YtifdgjmbecilhaaDoor
