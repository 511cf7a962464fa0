/- Layer 4 in plain words: the notes of bytes. -/
import Derived.Test.YtjbhnkigbobhiaaOa
import Derived.Test.YtjbhnkigbobhiaaLa
import Derived.Test.YtjbhnkigbobhiaaAm
namespace Go.Proofs.Ytjbhnkigbobhiaa
open Go.RowKit

/-- The first note of bytes and what stands behind it, if they begin with one. -/
noncomputable def noteAt (b : List UInt8) : Option (Nt × List UInt8) :=
  match tkSeal b with
  | (t, r, 0) => (oneL t).map fun n => (n, r)
  | _ => none
noncomputable def rdF : Nat → List UInt8 → List Nt × List UInt8
  | 0, b => ([], b)
  | f + 1, b => match noteAt b with
    | some (n, r) => (n :: (rdF f r).1, (rdF f r).2)
    | none => ([], b)
/-- The notes that follow one another from the beginning, and what stands behind them. -/
noncomputable def rdB (b : List UInt8) : List Nt × List UInt8 := rdF b.length b
theorem noteAt_less {b : List UInt8} {n : Nt} {r : List UInt8} (h : noteAt b = some (n, r)) : r.length < b.length := by
  unfold noteAt at h
  split at h
  · rename_i t r' hk
    rw [Option.map_eq_some_iff] at h
    obtain ⟨m, _, e⟩ := h
    cases e
    exact tkSeal_less hk
  · cases h
theorem rdF_more : ∀ (f g : Nat) (b : List UInt8), b.length ≤ f → b.length ≤ g → rdF f b = rdF g b
  | 0, 0, _, _, _ => rfl
  | 0, g + 1, b, h, _ => by
    have hb : b = [] := List.length_eq_zero_iff.1 (by omega)
    subst hb
    unfold rdF
    split
    · rename_i n r hn; exact absurd (noteAt_less hn) (by simp)
    · rfl
  | f + 1, 0, b, _, h => by
    have hb : b = [] := List.length_eq_zero_iff.1 (by omega)
    subst hb
    unfold rdF
    split
    · rename_i n r hn; exact absurd (noteAt_less hn) (by simp)
    · rfl
  | f + 1, g + 1, b, hf, hg => by
    unfold rdF
    split
    · rename_i n r hn
      have := noteAt_less hn
      rw [rdF_more f g r (by omega) (by omega)]
    · rfl
theorem rd_some {b : List UInt8} {n : Nt} {r : List UInt8} (h : noteAt b = some (n, r)) : rdB b = (n :: (rdB r).1, (rdB r).2) := by
  have hl := noteAt_less h
  unfold rdB
  rw [rdF_more b.length (b.length + 1) b (Nat.le_refl _) (by omega)]
  conv => lhs; unfold rdF
  rw [h]
  simp only
  rw [rdF_more b.length r.length r (by omega) (Nat.le_refl _)]
theorem rd_none {b : List UInt8} (h : noteAt b = none) : rdB b = ([], b) := by
  unfold rdB
  rw [rdF_more b.length (b.length + 1) b (Nat.le_refl _) (by omega)]
  conv => lhs; unfold rdF
  rw [h]
theorem rd_less (b : List UInt8) : ∀ f, (rdF f b).1.length + (rdF f b).2.length ≤ b.length := by
  intro f
  induction f generalizing b with
  | zero => simp [rdF]
  | succ f ih =>
    unfold rdF
    split
    · rename_i n r hn
      have := noteAt_less hn
      have := ih r
      simp only [List.length_cons]; omega
    · simp
/-- Read's answer. -/
def ReadP (w : World) (b : List UInt8) (e : Ending) (w' : World) : Prop :=
  ∃ v, e = .returned (.tuple #[v, .int .i64 ((b.length : Int) - (rdB b).2.length)]) ∧ w'.ownsRow w.heap.size 43 5 v (rdB b).1.length (ntsCells (rdB b).1) ∧ Below w.heap.size w w'
def szV : Value → Nat | .string s => s.size | _ => 0
end Go.Proofs.Ytjbhnkigbobhiaa
