/- Layer 4 in plain words: rows of notes in memory; the notes that come to a state. -/
import Derived.Test.YtjbhnkigbobhiaaDoorAn
import Derived.Laws.AppendOwn
import Derived.Laws.OwnMore
import Derived.OwnWalk
import Derived.Test.YtjbhnkigbobhiaaDoorOa
import Derived.Test.YtjbhnkigbobhiaaDoorAm
namespace Go.Proofs.YtjbhnkigbobhiaaDoor
open Go.RowKit

/-- A note's cells. -/
def ntCells (x : Nt) : List Value := [.int .i64 x.k, .int .u64 (x.i : Nat), .int .u64 (x.t : Nat), .int .u64 (x.v : Nat), .string x.d]
def ntsCells (L : List Nt) : List Value := L.flatMap ntCells
theorem ntsCells_snoc (L : List Nt) (x : Nt) : ntsCells (L ++ [x]) = ntsCells L ++ ntCells x := by simp [ntsCells]
theorem ntsCells_len (L : List Nt) : (ntsCells L).length = L.length * 5 := by
  induction L with
  | nil => rfl
  | cons x L ih => simp only [ntsCells, List.flatMap_cons, List.length_append, List.length_cons] at *; rw [ih]; simp [ntCells]; omega
theorem ntsCells_at (L : List Nt) : ∀ (j : Nat) (x : Nt), L[j]? = some x → ∀ i (h : i < 5), (ntsCells L)[j * 5 + i]? = some ((ntCells x)[i]'h) := by
  induction L with
  | nil => intro j x h; simp at h
  | cons y L ih =>
    intro j x h i hi
    cases j with
    | zero =>
      obtain rfl : y = x := by simpa using h
      simp only [ntsCells, List.flatMap_cons, Nat.zero_mul, Nat.zero_add]
      rw [List.getElem?_append_left (by simpa [ntCells] using hi), List.getElem?_eq_getElem (by simpa [ntCells] using hi)]
      rfl
    | succ j =>
      have h2 := ih j x (by simpa using h) i hi
      simp only [ntsCells, List.flatMap_cons]
      rw [List.getElem?_append_right (by simp [ntCells]; omega)]
      have e : (j + 1) * 5 + i - (ntCells y).length = j * 5 + i := by simp [ntCells]; omega
      rw [e]; exact h2
theorem infoNote : (Tryd.prog.info? 24).map (fun i => (i.zero, i.size, i.bytes)) = some (some (.agg #[.int .i64 0, .int .u64 0, .int .u64 0, .int .u64 0, .string ⟨#[]⟩]), 5, 48) := by kernel_rfl
/-- Notes that a call has laid, read back. -/
theorem nts_of_owns {w : World} {B : Nat} {v : Value} {L : List Nt} (h : w.ownsRow B 24 5 v L.length (ntsCells L)) : ∃ a cap, v = .slice a L.length cap ∧ Nts w a L := by
  rcases h.2 with ⟨rfl, h0⟩ | ⟨g, cap, cur, rfl, _, hg, _, _, _, htake⟩
  · refine ⟨none, 0, by rw [h0], fun j x hx => ?_⟩
    have := (List.getElem?_eq_some_iff.1 hx).1; omega
  · refine ⟨_, cap, rfl, fun j x hx => ?_⟩
    have hj := (List.getElem?_eq_some_iff.1 hx).1
    have c : ∀ i (hi : i < 5), w.cell? ⟨g, j * 5 + i, none⟩ = some ((ntCells x)[i]'hi) := fun i hi => by
      rw [cell_of_row w g _ cur _ _ hg, ← Array.getElem?_toList]
      have h1 := ntsCells_at L j x hx i hi
      rw [← htake, List.getElem?_take_of_lt (by omega)] at h1
      exact h1
    exact ⟨g, 0, rfl, lt_of_row hg, by simpa [ntCells] using c 0 (by omega), by simpa [ntCells] using c 1 (by omega), by simpa [ntCells] using c 2 (by omega), by simpa [ntCells] using c 3 (by omega), by simpa [ntCells] using c 4 (by omega)⟩
/-- The notes that come to a state. -/
def headL (term vote base bt : Nat) (snap : ByteArray) : List Nt := ⟨1, 0, term, vote, ⟨#[]⟩⟩ :: (if 0 < base then [⟨4, base, bt, 0, snap⟩] else [])
def entL (base : Nat) (L : List En) (k : Nat) : List Nt := (L.take k).mapIdx fun i e => ⟨2, base + i + 1, e.t, 0, e.d⟩
def leastL (term vote base bt : Nat) (snap : ByteArray) (L : List En) : List Nt := headL term vote base bt snap ++ entL base L L.length
theorem entL_succ (base : Nat) (L : List En) (k : Nat) (x : En) (h : L[k]? = some x) : entL base L (k + 1) = entL base L k ++ [⟨2, base + k + 1, x.t, 0, x.d⟩] := by
  have hk := (List.getElem?_eq_some_iff.1 h).1
  have e : L.take (k + 1) = L.take k ++ [x] := by rw [List.take_add_one, h]; rfl
  unfold entL
  rw [e, List.mapIdx_append]
  simp [List.length_take, Nat.min_eq_left (Nat.le_of_lt hk)]
theorem headL_len (term vote base bt : Nat) (snap : ByteArray) : (headL term vote base bt snap).length ≤ 2 := by unfold headL; split <;> simp
theorem entL_len (base : Nat) (L : List En) (k : Nat) (h : k ≤ L.length) : (entL base L k).length = k := by simp [entL]; omega
theorem owns_base {w : World} {B B' : Nat} {e : TypeId} {size : Nat} {v : Value} {n : Nat} {xs : List Value} (h : w.ownsRow B e size v n xs) (hB : B' ≤ B) : w.ownsRow B' e size v n xs := by
  refine ⟨h.1, ?_⟩
  rcases h.2 with h2 | ⟨g, cap, cur, e1, e2, rest⟩
  · exact .inl h2
  · exact .inr ⟨g, cap, cur, e1, Nat.le_trans hB e2, rest⟩
/-- Least's answer. -/
def LeastP (w : World) (N : List Nt) (e : Ending) (w' : World) : Prop := ∃ v, e = .returned (.tuple #[v, .int .i64 0]) ∧ w'.ownsRow w.heap.size 24 5 v N.length (ntsCells N) ∧ Below w.heap.size w w'
end Go.Proofs.YtjbhnkigbobhiaaDoor
/- Layer 4 in plain words: the notes of bytes. -/
namespace Go.Proofs.YtjbhnkigbobhiaaDoor
open Go.RowKit

/-- The first note of bytes and what stands behind it, if they begin with one. -/
noncomputable def noteAt (b : List UInt8) : Option (Nt × List UInt8) :=
  match tkSeal b with
  | (t, r, 0) => (oneL t).map fun n => (n, r)
  | _ => none
noncomputable def rdF : Nat → List UInt8 → List Nt × List UInt8
  | 0, b => ([], b)
  | f + 1, b => match noteAt b with
    | some (n, r) => (n :: (rdF f r).1, (rdF f r).2)
    | none => ([], b)
/-- The notes that follow one another from the beginning, and what stands behind them. -/
noncomputable def rdB (b : List UInt8) : List Nt × List UInt8 := rdF b.length b
theorem noteAt_less {b : List UInt8} {n : Nt} {r : List UInt8} (h : noteAt b = some (n, r)) : r.length < b.length := by
  unfold noteAt at h
  split at h
  · rename_i t r' hk
    rw [Option.map_eq_some_iff] at h
    obtain ⟨m, _, e⟩ := h
    cases e
    exact tkSeal_less hk
  · cases h
theorem rdF_more : ∀ (f g : Nat) (b : List UInt8), b.length ≤ f → b.length ≤ g → rdF f b = rdF g b
  | 0, 0, _, _, _ => rfl
  | 0, g + 1, b, h, _ => by
    have hb : b = [] := List.length_eq_zero_iff.1 (by omega)
    subst hb
    unfold rdF
    split
    · rename_i n r hn; exact absurd (noteAt_less hn) (by simp)
    · rfl
  | f + 1, 0, b, _, h => by
    have hb : b = [] := List.length_eq_zero_iff.1 (by omega)
    subst hb
    unfold rdF
    split
    · rename_i n r hn; exact absurd (noteAt_less hn) (by simp)
    · rfl
  | f + 1, g + 1, b, hf, hg => by
    unfold rdF
    split
    · rename_i n r hn
      have := noteAt_less hn
      rw [rdF_more f g r (by omega) (by omega)]
    · rfl
theorem rd_some {b : List UInt8} {n : Nt} {r : List UInt8} (h : noteAt b = some (n, r)) : rdB b = (n :: (rdB r).1, (rdB r).2) := by
  have hl := noteAt_less h
  unfold rdB
  rw [rdF_more b.length (b.length + 1) b (Nat.le_refl _) (by omega)]
  conv => lhs; unfold rdF
  rw [h]
  simp only
  rw [rdF_more b.length r.length r (by omega) (Nat.le_refl _)]
theorem rd_none {b : List UInt8} (h : noteAt b = none) : rdB b = ([], b) := by
  unfold rdB
  rw [rdF_more b.length (b.length + 1) b (Nat.le_refl _) (by omega)]
  conv => lhs; unfold rdF
  rw [h]
theorem rd_less (b : List UInt8) : ∀ f, (rdF f b).1.length + (rdF f b).2.length ≤ b.length := by
  intro f
  induction f generalizing b with
  | zero => simp [rdF]
  | succ f ih =>
    unfold rdF
    split
    · rename_i n r hn
      have := noteAt_less hn
      have := ih r
      simp only [List.length_cons]; omega
    · simp
/-- Read's answer. -/
def ReadP (w : World) (b : List UInt8) (e : Ending) (w' : World) : Prop :=
  ∃ v, e = .returned (.tuple #[v, .int .i64 ((b.length : Int) - (rdB b).2.length)]) ∧ w'.ownsRow w.heap.size 24 5 v (rdB b).1.length (ntsCells (rdB b).1) ∧ Below w.heap.size w w'
def szV : Value → Nat | .string s => s.size | _ => 0
end Go.Proofs.YtjbhnkigbobhiaaDoor
