/- Layer 4 in plain words: the note of a sealed text. -/
import Derived.Test.YtjbhnkigbobhiaaNt
import Derived.Test.YtjbhnkigbobhiaaPte
namespace Go.Proofs.Ytjbhnkigbobhiaa
open Go.RowKit

/-- The note of a sealed text, if it is one. -/
noncomputable def oneL (s : List UInt8) : Option Nt :=
  match s with
  | [] => none
  | c :: r => match tkNums 3 r with
    | ([i, t, v], d, 0) => if okB ⟨c.toNat, i, t, v, ⟨d.toArray⟩⟩ = true then some ⟨c.toNat, i, t, v, ⟨d.toArray⟩⟩ else none
    | _ => none
theorem each_less : ∀ (n : Nat) (s : List UInt8), (tkEach n s).2.1.length ≤ s.length
  | 0, _ => Nat.le_refl _
  | n + 1, s => by
    have h1 := tk_less s
    have h2 := each_less n (tkNum s).2.1
    unfold tkEach
    split
    · simp
    · split
      · simp
      · simp only; omega
theorem nums_less (M : Int) (s : List UInt8) : (tkNums M s).2.1.length ≤ s.length := by
  have h1 := tk_less s
  have h2 := each_less (tkNum s).1 (tkNum s).2.1
  unfold tkNums
  split
  · simp
  · split
    · simp
    · omega
/-- What is answered: the note, true; or any note, false. -/
def OneP (w : World) (s : List UInt8) (e : Ending) (w' : World) : Prop :=
  Below w.heap.size w w' ∧ ((∃ n : Nt, oneL s = some n ∧ e = .returned (.tuple #[n.val, .bool true])) ∨ (oneL s = none ∧ ∃ n : Nt, e = .returned (.tuple #[n.val, .bool false])))
end Go.Proofs.Ytjbhnkigbobhiaa
