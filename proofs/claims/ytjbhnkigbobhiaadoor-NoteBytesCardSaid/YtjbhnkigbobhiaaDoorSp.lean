/- Layer 4 in plain words: a state behind one note more, behind many. -/
import Derived.Test.YtjbhnkigbobhiaaDoorLa
namespace Go.Proofs.YtjbhnkigbobhiaaDoor
open Go.RowKit

/-- A state. -/
structure Sg where
  term : Nat
  vote : Nat
  base : Nat
  bt : Nat
  snap : ByteArray
  L : List En
def Sg.zero : Sg := ⟨0, 0, 0, 0, ⟨#[]⟩, []⟩
/-- What a snapshot at index i of the term t leaves of the entries. -/
def keptL (base : Nat) (L : List En) (i t : Nat) : List En :=
  match L[i - base - 1]? with
  | some x => if x.t = t then L.drop (i - base) else []
  | none => []
def Sg.step (s : Sg) (n : Nt) : Sg :=
  if n.k = 1 then { s with term := n.t, vote := n.v } else
  if n.k = 2 then (if n.i = s.base + s.L.length + 1 ∧ s.L.length < 1024 ∧ n.i ≤ 1099511627776 then { s with L := s.L ++ [⟨n.t, n.d⟩] } else s) else
  if n.k = 3 then { s with L := s.L.take (n.i - 1 - s.base) } else
  if n.k = 4 then (if n.i ≤ s.base ∨ 1099511627776 < n.i then s else { s with base := n.i, bt := n.t, snap := n.d, L := keptL s.base s.L n.i n.t }) else s
/-- What every state that notes come to keeps. -/
def Sg.fit (s : Sg) : Prop := s.L.length ≤ 1024 ∧ s.base + s.L.length ≤ 1099511627776
theorem keptL_le (base : Nat) (L : List En) (i t : Nat) (h : base < i) : i + (keptL base L i t).length ≤ max i (base + L.length) ∧ (keptL base L i t).length ≤ L.length := by
  unfold keptL
  split
  · split
    · rw [List.length_drop]; omega
    · simp; omega
  · simp; omega
theorem Sg.fit_zero : Sg.zero.fit := ⟨by decide, by decide⟩
theorem Sg.fit_step {s : Sg} (h : s.fit) (n : Nt) : (s.step n).fit := by
  obtain ⟨h1, h2⟩ := h
  unfold Sg.step
  by_cases k1 : n.k = 1
  · rw [if_pos k1]; exact ⟨h1, h2⟩
  rw [if_neg k1]
  by_cases k2 : n.k = 2
  · rw [if_pos k2]
    split
    · rename_i h; exact ⟨by simp; omega, by simp; omega⟩
    · exact ⟨h1, h2⟩
  rw [if_neg k2]
  by_cases k3 : n.k = 3
  · rw [if_pos k3]; exact ⟨by simp; omega, by simp; omega⟩
  rw [if_neg k3]
  by_cases k4 : n.k = 4
  · rw [if_pos k4]
    split
    · exact ⟨h1, h2⟩
    · rename_i h
      have := keptL_le s.base s.L n.i n.t (by omega)
      exact ⟨by simp only; omega, by simp only; omega⟩
  · rw [if_neg k4]; exact ⟨h1, h2⟩
def Sg.fold (l : List Nt) : Sg := l.foldl Sg.step Sg.zero
theorem Sg.fit_foldl (l : List Nt) : ∀ s : Sg, s.fit → (l.foldl Sg.step s).fit := by
  induction l with
  | nil => intro s h; exact h
  | cons n l ih => intro s h; exact ih _ (Sg.fit_step h n)
theorem Sg.fold_succ (l : List Nt) (k : Nat) (n : Nt) (h : l[k]? = some n) : (l.take (k + 1)).foldl Sg.step Sg.zero = ((l.take k).foldl Sg.step Sg.zero).step n := by
  have e : l.take (k + 1) = l.take k ++ [n] := by rw [List.take_add_one, h]; rfl
  rw [e, List.foldl_append]; rfl
/-- What a step answers. -/
def StP (w : World) (a0 : Option Addr) (s : Sg) (e : Ending) (w' : World) : Prop :=
  ∃ a c, e = .returned (.agg #[.int .u64 s.term, .int .u64 s.vote, .int .u64 s.base, .int .u64 s.bt, .string s.snap, .slice a s.L.length c]) ∧ Ents w' a s.L ∧ Below w.heap.size w w' ∧ (a = a0 ∨ ∀ q, a = some q → w.heap.size ≤ q.block)
/-- What is held of the boxes while Last makes memory. -/
theorem keepL {W wp w2 : World} {x y : Nat} {vi v0 v1 v2 v3 : Value} (K : wp.cell? ⟨x, 1, none⟩ = some vi ∧ wp.cell? ⟨y, 0, none⟩ = some v0 ∧ wp.cell? ⟨y, 1, none⟩ = some v1 ∧ wp.cell? ⟨y, 2, none⟩ = some v2 ∧ wp.cell? ⟨y, 3, none⟩ = some v3 ∧ Below W.heap.size W wp) (hb : Below wp.heap.size wp w2) (hx : x < W.heap.size) (hy : y < W.heap.size) :
    w2.cell? ⟨x, 1, none⟩ = some vi ∧ w2.cell? ⟨y, 0, none⟩ = some v0 ∧ w2.cell? ⟨y, 1, none⟩ = some v1 ∧ w2.cell? ⟨y, 2, none⟩ = some v2 ∧ w2.cell? ⟨y, 3, none⟩ = some v3 ∧ Below W.heap.size W w2 := by
  obtain ⟨ki, k0, k1, k2, k3, hB⟩ := K
  have hs := hB.size
  exact ⟨(hb.cell (p := ⟨x, 1, none⟩) (by show x < _; omega)).trans ki, (hb.cell (p := ⟨y, 0, none⟩) (by show y < _; omega)).trans k0, (hb.cell (p := ⟨y, 1, none⟩) (by show y < _; omega)).trans k1, (hb.cell (p := ⟨y, 2, none⟩) (by show y < _; omega)).trans k2, (hb.cell (p := ⟨y, 3, none⟩) (by show y < _; omega)).trans k3, hB.trans (hb.mono hs)⟩
end Go.Proofs.YtjbhnkigbobhiaaDoor
