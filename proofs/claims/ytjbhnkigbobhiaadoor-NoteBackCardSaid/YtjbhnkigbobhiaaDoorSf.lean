/- Layer 4 in plain words: rows of notes in memory; the notes that come to a state. -/
import Derived.Test.YtjbhnkigbobhiaaDoorSt
import Derived.Laws.AppendOwn
import Derived.Laws.OwnMore
import Derived.OwnWalk
namespace Go.Proofs.YtjbhnkigbobhiaaDoor
open Go.RowKit

/-- A note's cells. -/
def ntCells (x : Nt) : List Value := [.int .i64 x.k, .int .u64 (x.i : Nat), .int .u64 (x.t : Nat), .int .u64 (x.v : Nat), .string x.d]
def ntsCells (L : List Nt) : List Value := L.flatMap ntCells
theorem ntsCells_snoc (L : List Nt) (x : Nt) : ntsCells (L ++ [x]) = ntsCells L ++ ntCells x := by simp [ntsCells]
theorem ntsCells_len (L : List Nt) : (ntsCells L).length = L.length * 5 := by
  induction L with
  | nil => rfl
  | cons x L ih => simp only [ntsCells, List.flatMap_cons, List.length_append, List.length_cons] at *; rw [ih]; simp [ntCells]; omega
theorem ntsCells_at (L : List Nt) : ∀ (j : Nat) (x : Nt), L[j]? = some x → ∀ i (h : i < 5), (ntsCells L)[j * 5 + i]? = some ((ntCells x)[i]'h) := by
  induction L with
  | nil => intro j x h; simp at h
  | cons y L ih =>
    intro j x h i hi
    cases j with
    | zero =>
      obtain rfl : y = x := by simpa using h
      simp only [ntsCells, List.flatMap_cons, Nat.zero_mul, Nat.zero_add]
      rw [List.getElem?_append_left (by simpa [ntCells] using hi), List.getElem?_eq_getElem (by simpa [ntCells] using hi)]
      rfl
    | succ j =>
      have h2 := ih j x (by simpa using h) i hi
      simp only [ntsCells, List.flatMap_cons]
      rw [List.getElem?_append_right (by simp [ntCells]; omega)]
      have e : (j + 1) * 5 + i - (ntCells y).length = j * 5 + i := by simp [ntCells]; omega
      rw [e]; exact h2
theorem infoNote : (Tryd.prog.info? 24).map (fun i => (i.zero, i.size, i.bytes)) = some (some (.agg #[.int .i64 0, .int .u64 0, .int .u64 0, .int .u64 0, .string ⟨#[]⟩]), 5, 48) := by kernel_rfl
/-- Notes that a call has laid, read back. -/
theorem nts_of_owns {w : World} {B : Nat} {v : Value} {L : List Nt} (h : w.ownsRow B 24 5 v L.length (ntsCells L)) : ∃ a cap, v = .slice a L.length cap ∧ Nts w a L := by
  rcases h.2 with ⟨rfl, h0⟩ | ⟨g, cap, cur, rfl, _, hg, _, _, _, htake⟩
  · refine ⟨none, 0, by rw [h0], fun j x hx => ?_⟩
    have := (List.getElem?_eq_some_iff.1 hx).1; omega
  · refine ⟨_, cap, rfl, fun j x hx => ?_⟩
    have hj := (List.getElem?_eq_some_iff.1 hx).1
    have c : ∀ i (hi : i < 5), w.cell? ⟨g, j * 5 + i, none⟩ = some ((ntCells x)[i]'hi) := fun i hi => by
      rw [cell_of_row w g _ cur _ _ hg, ← Array.getElem?_toList]
      have h1 := ntsCells_at L j x hx i hi
      rw [← htake, List.getElem?_take_of_lt (by omega)] at h1
      exact h1
    exact ⟨g, 0, rfl, lt_of_row hg, by simpa [ntCells] using c 0 (by omega), by simpa [ntCells] using c 1 (by omega), by simpa [ntCells] using c 2 (by omega), by simpa [ntCells] using c 3 (by omega), by simpa [ntCells] using c 4 (by omega)⟩
/-- The notes that come to a state. -/
def headL (term vote base bt : Nat) (snap : ByteArray) : List Nt := ⟨1, 0, term, vote, ⟨#[]⟩⟩ :: (if 0 < base then [⟨4, base, bt, 0, snap⟩] else [])
def entL (base : Nat) (L : List En) (k : Nat) : List Nt := (L.take k).mapIdx fun i e => ⟨2, base + i + 1, e.t, 0, e.d⟩
def leastL (term vote base bt : Nat) (snap : ByteArray) (L : List En) : List Nt := headL term vote base bt snap ++ entL base L L.length
theorem entL_succ (base : Nat) (L : List En) (k : Nat) (x : En) (h : L[k]? = some x) : entL base L (k + 1) = entL base L k ++ [⟨2, base + k + 1, x.t, 0, x.d⟩] := by
  have hk := (List.getElem?_eq_some_iff.1 h).1
  have e : L.take (k + 1) = L.take k ++ [x] := by rw [List.take_add_one, h]; rfl
  unfold entL
  rw [e, List.mapIdx_append]
  simp [List.length_take, Nat.min_eq_left (Nat.le_of_lt hk)]
theorem headL_len (term vote base bt : Nat) (snap : ByteArray) : (headL term vote base bt snap).length ≤ 2 := by unfold headL; split <;> simp
theorem entL_len (base : Nat) (L : List En) (k : Nat) (h : k ≤ L.length) : (entL base L k).length = k := by simp [entL]; omega
theorem owns_base {w : World} {B B' : Nat} {e : TypeId} {size : Nat} {v : Value} {n : Nat} {xs : List Value} (h : w.ownsRow B e size v n xs) (hB : B' ≤ B) : w.ownsRow B' e size v n xs := by
  refine ⟨h.1, ?_⟩
  rcases h.2 with h2 | ⟨g, cap, cur, e1, e2, rest⟩
  · exact .inl h2
  · exact .inr ⟨g, cap, cur, e1, Nat.le_trans hB e2, rest⟩
/-- Least's answer. -/
def LeastP (w : World) (N : List Nt) (e : Ending) (w' : World) : Prop := ∃ v, e = .returned (.tuple #[v, .int .i64 0]) ∧ w'.ownsRow w.heap.size 24 5 v N.length (ntsCells N) ∧ Below w.heap.size w w'
end Go.Proofs.YtjbhnkigbobhiaaDoor
/- Layer 4 in plain words: a state behind one note more, behind many. -/
namespace Go.Proofs.YtjbhnkigbobhiaaDoor
open Go.RowKit

/-- A state. -/
structure Sg where
  term : Nat
  vote : Nat
  base : Nat
  bt : Nat
  snap : ByteArray
  L : List En
def Sg.zero : Sg := ⟨0, 0, 0, 0, ⟨#[]⟩, []⟩
/-- What a snapshot at index i of the term t leaves of the entries. -/
def keptL (base : Nat) (L : List En) (i t : Nat) : List En :=
  match L[i - base - 1]? with
  | some x => if x.t = t then L.drop (i - base) else []
  | none => []
def Sg.step (s : Sg) (n : Nt) : Sg :=
  if n.k = 1 then { s with term := n.t, vote := n.v } else
  if n.k = 2 then (if n.i = s.base + s.L.length + 1 ∧ s.L.length < 1024 ∧ n.i ≤ 1099511627776 then { s with L := s.L ++ [⟨n.t, n.d⟩] } else s) else
  if n.k = 3 then { s with L := s.L.take (n.i - 1 - s.base) } else
  if n.k = 4 then (if n.i ≤ s.base ∨ 1099511627776 < n.i then s else { s with base := n.i, bt := n.t, snap := n.d, L := keptL s.base s.L n.i n.t }) else s
/-- What every state that notes come to keeps. -/
def Sg.fit (s : Sg) : Prop := s.L.length ≤ 1024 ∧ s.base + s.L.length ≤ 1099511627776
theorem keptL_le (base : Nat) (L : List En) (i t : Nat) (h : base < i) : i + (keptL base L i t).length ≤ max i (base + L.length) ∧ (keptL base L i t).length ≤ L.length := by
  unfold keptL
  split
  · split
    · rw [List.length_drop]; omega
    · simp; omega
  · simp; omega
theorem Sg.fit_zero : Sg.zero.fit := ⟨by decide, by decide⟩
theorem Sg.fit_step {s : Sg} (h : s.fit) (n : Nt) : (s.step n).fit := by
  obtain ⟨h1, h2⟩ := h
  unfold Sg.step
  by_cases k1 : n.k = 1
  · rw [if_pos k1]; exact ⟨h1, h2⟩
  rw [if_neg k1]
  by_cases k2 : n.k = 2
  · rw [if_pos k2]
    split
    · rename_i h; exact ⟨by simp; omega, by simp; omega⟩
    · exact ⟨h1, h2⟩
  rw [if_neg k2]
  by_cases k3 : n.k = 3
  · rw [if_pos k3]; exact ⟨by simp; omega, by simp; omega⟩
  rw [if_neg k3]
  by_cases k4 : n.k = 4
  · rw [if_pos k4]
    split
    · exact ⟨h1, h2⟩
    · rename_i h
      have := keptL_le s.base s.L n.i n.t (by omega)
      exact ⟨by simp only; omega, by simp only; omega⟩
  · rw [if_neg k4]; exact ⟨h1, h2⟩
def Sg.fold (l : List Nt) : Sg := l.foldl Sg.step Sg.zero
theorem Sg.fit_foldl (l : List Nt) : ∀ s : Sg, s.fit → (l.foldl Sg.step s).fit := by
  induction l with
  | nil => intro s h; exact h
  | cons n l ih => intro s h; exact ih _ (Sg.fit_step h n)
theorem Sg.fold_succ (l : List Nt) (k : Nat) (n : Nt) (h : l[k]? = some n) : (l.take (k + 1)).foldl Sg.step Sg.zero = ((l.take k).foldl Sg.step Sg.zero).step n := by
  have e : l.take (k + 1) = l.take k ++ [n] := by rw [List.take_add_one, h]; rfl
  rw [e, List.foldl_append]; rfl
/-- What a step answers. -/
def StP (w : World) (a0 : Option Addr) (s : Sg) (e : Ending) (w' : World) : Prop :=
  ∃ a c, e = .returned (.agg #[.int .u64 s.term, .int .u64 s.vote, .int .u64 s.base, .int .u64 s.bt, .string s.snap, .slice a s.L.length c]) ∧ Ents w' a s.L ∧ Below w.heap.size w w' ∧ (a = a0 ∨ ∀ q, a = some q → w.heap.size ≤ q.block)
/-- What is held of the boxes while Last makes memory. -/
theorem keepL {W wp w2 : World} {x y : Nat} {vi v0 v1 v2 v3 : Value} (K : wp.cell? ⟨x, 1, none⟩ = some vi ∧ wp.cell? ⟨y, 0, none⟩ = some v0 ∧ wp.cell? ⟨y, 1, none⟩ = some v1 ∧ wp.cell? ⟨y, 2, none⟩ = some v2 ∧ wp.cell? ⟨y, 3, none⟩ = some v3 ∧ Below W.heap.size W wp) (hb : Below wp.heap.size wp w2) (hx : x < W.heap.size) (hy : y < W.heap.size) :
    w2.cell? ⟨x, 1, none⟩ = some vi ∧ w2.cell? ⟨y, 0, none⟩ = some v0 ∧ w2.cell? ⟨y, 1, none⟩ = some v1 ∧ w2.cell? ⟨y, 2, none⟩ = some v2 ∧ w2.cell? ⟨y, 3, none⟩ = some v3 ∧ Below W.heap.size W w2 := by
  obtain ⟨ki, k0, k1, k2, k3, hB⟩ := K
  have hs := hB.size
  exact ⟨(hb.cell (p := ⟨x, 1, none⟩) (by show x < _; omega)).trans ki, (hb.cell (p := ⟨y, 0, none⟩) (by show y < _; omega)).trans k0, (hb.cell (p := ⟨y, 1, none⟩) (by show y < _; omega)).trans k1, (hb.cell (p := ⟨y, 2, none⟩) (by show y < _; omega)).trans k2, (hb.cell (p := ⟨y, 3, none⟩) (by show y < _; omega)).trans k3, hB.trans (hb.mono hs)⟩
end Go.Proofs.YtjbhnkigbobhiaaDoor
/- The reference of layer 4: Step: a snapshot laid: in plain words. -/
namespace Go.Proofs.YtjbhnkigbobhiaaDoor
open Go.RowKit

/-- Whether a snapshot at index i of the term t was met in the first k entries. -/
def fndL (base : Nat) (L : List En) (i t k : Nat) : Bool := decide (i - base - 1 < k) && (match L[i - base - 1]? with | some x => decide (x.t = t) | none => false)
/-- What it has kept of the first k entries. -/
def kpL (base : Nat) (L : List En) (i t k : Nat) : List En := if fndL base L i t k then (L.take k).drop (i - base) else []
theorem kpL_zero (base : Nat) (L : List En) (i t : Nat) : fndL base L i t 0 = false ∧ kpL base L i t 0 = [] := by simp [kpL, fndL]
theorem kpL_all (base : Nat) (L : List En) (i t : Nat) (_h : base < i) : kpL base L i t L.length = keptL base L i t := by
  unfold kpL keptL fndL
  by_cases hj : i - base - 1 < L.length
  · rw [List.getElem?_eq_getElem hj]
    simp [hj]
  · rw [List.getElem?_eq_none (by omega)]
    simp
theorem fndL_at (base : Nat) (L : List En) (i t k : Nat) (x : En) (hx : L[k]? = some x) (h : base + k + 1 = i) : fndL base L i t k = false ∧ kpL base L i t k = [] ∧ fndL base L i t (k + 1) = decide (x.t = t) ∧ kpL base L i t (k + 1) = [] := by
  have e : i - base - 1 = k := by omega
  have e2 : i - base = k + 1 := by omega
  have f1 : fndL base L i t k = false := by simp [fndL, e]
  refine ⟨f1, by simp [kpL, f1], by simp [fndL, e, hx], ?_⟩
  unfold kpL
  split
  · rw [e2, List.drop_eq_nil_of_le (by rw [List.length_take]; omega)]
  · rfl
theorem fndL_low (base : Nat) (L : List En) (i t k : Nat) (h : base + k + 1 < i) : fndL base L i t k = false ∧ kpL base L i t k = [] ∧ fndL base L i t (k + 1) = false ∧ kpL base L i t (k + 1) = [] := by
  have f1 : fndL base L i t k = false := by simp [fndL]; intro h'; omega
  have f2 : fndL base L i t (k + 1) = false := by simp [fndL]; intro h'; omega
  exact ⟨f1, by simp [kpL, f1], f2, by simp [kpL, f2]⟩
theorem fndL_up (base : Nat) (L : List En) (i t k : Nat) (x : En) (hx : L[k]? = some x) (hb : base < i) (h : i < base + k + 1) : fndL base L i t (k + 1) = fndL base L i t k ∧ kpL base L i t (k + 1) = (if fndL base L i t k then kpL base L i t k ++ [x] else []) := by
  have a1 : i - base - 1 < k := by omega
  have a2 : i - base - 1 < k + 1 := by omega
  have e : fndL base L i t (k + 1) = fndL base L i t k := by simp [fndL, a1, a2]
  refine ⟨e, ?_⟩
  have hk := (List.getElem?_eq_some_iff.1 hx).1
  unfold kpL
  rw [e]
  split
  · rw [List.take_add_one, hx, List.drop_append_of_le_length (by rw [List.length_take]; omega)]; rfl
  · rfl
theorem kpL_len (base : Nat) (L : List En) (i t k : Nat) : (kpL base L i t k).length ≤ L.length := by
  unfold kpL; split
  · rw [List.length_drop, List.length_take]; omega
  · simp
end Go.Proofs.YtjbhnkigbobhiaaDoor
