/- Entries and logs in memory, in plain words (no layer's own words). -/
import Derived.Test.YtkifgjgjhjhknaaRows
import Derived.WalkKit
import Derived.WalkSpells
import Derived.WalkLawsBesides
import Derived.Lib.Hide
import Derived.Handy
import Derived.IntWalk
import Derived.Deep.QuietTactic
import Derived.BigQuiet
import Derived.Laws.StructEq
import Derived.WalkSmall
import Derived.Laws.AppendOwn
import Derived.Laws.OwnMore
import Derived.OwnWalk
import Derived.Deep.RegionHeld
import Derived.ArgAppend
namespace Go.Proofs.Ytkifgjgjhjhknaa
open Go.RowKit

/-- An entry. -/
structure En where
  t : Nat
  d : ByteArray
/-- Entries in memory. -/
def Ents (w : World) (a : Option Addr) (L : List En) : Prop :=
  ∀ j x, L[j]? = some x → ∃ b off, a = some ⟨b, off, none⟩ ∧ b < w.heap.size ∧ w.cell? ⟨b, off + j * 2, none⟩ = some (.int .u64 (x.t : Nat)) ∧ w.cell? ⟨b, off + j * 2 + 1, none⟩ = some (.string x.d)
theorem Ents.later {w w' : World} {a : Option Addr} {L : List En} (h : Ents w a L) (hb : Below w.heap.size w w') : Ents w' a L := fun j x hx => by
  obtain ⟨b, off, e, hlt, c0, c1⟩ := h j x hx
  exact ⟨b, off, e, Nat.lt_of_lt_of_le hlt hb.size, (hb.cell (p := ⟨b, off + j * 2, none⟩) hlt).trans c0, (hb.cell (p := ⟨b, off + j * 2 + 1, none⟩) hlt).trans c1⟩
theorem Ents.nil (w : World) (a : Option Addr) : Ents w a [] := fun j x hx => by simp at hx
theorem Ents.take {w : World} {a : Option Addr} {L : List En} (h : Ents w a L) (k : Nat) : Ents w a (L.take k) := fun j x hx => by
  have hj := (List.getElem?_eq_some_iff.1 hx).1
  rw [List.length_take] at hj
  rw [List.getElem?_take_of_lt (by omega)] at hx
  exact h j x hx
/-- The entries from k on: their address is further on, but where no room is left. -/
theorem Ents.drop {w : World} {b off off' : Nat} {L : List En} (h : Ents w (some ⟨b, off, none⟩) L) (k : Nat) (ho : k < L.length → off' = off + k * 2) : Ents w (some ⟨b, off', none⟩) (L.drop k) := fun j x hx => by
  have hj := (List.getElem?_eq_some_iff.1 hx).1
  rw [List.length_drop] at hj
  rw [List.getElem?_drop] at hx
  obtain ⟨b2, off2, e, hlt, c0, c1⟩ := h _ x hx
  cases e
  have e2 : off' + j * 2 = off + (k + j) * 2 := by rw [ho (by omega)]; omega
  exact ⟨b, off', rfl, hlt, by rw [e2]; exact c0, by rw [e2]; exact c1⟩
theorem Ents.set {w : World} {a : Option Addr} {L : List En} (h : Ents w a L) {x : Nat} (hne : ∀ q, a = some q → q.block ≠ x) (o : Nat) (v : Value) : Ents (w.setCell ⟨x, o, none⟩ v) a L := fun j y hy => by
  obtain ⟨b, off, e, hlt, c0, c1⟩ := h j y hy
  have hb : x ≠ b := fun h => hne _ e h.symm
  exact ⟨b, off, e, by simpa using hlt, (World.cell?_setCell_far _ _ _ _ hb).trans c0, (World.cell?_setCell_far _ _ _ _ hb).trans c1⟩
/-- Where there is an entry, its block is an elder one. -/
theorem Ents.lt {w : World} {b off : Nat} {L : List En} (h : Ents w (some ⟨b, off, none⟩) L) (hL : 0 < L.length) : b < w.heap.size := by
  obtain ⟨b2, off2, e, hlt, _, _⟩ := h 0 _ (List.getElem?_eq_getElem hL)
  cases e; exact hlt
theorem Ents.addr {w : World} {a : Option Addr} {L : List En} (h : Ents w a L) (hL : 0 < L.length) : ∃ b off, a = some ⟨b, off, none⟩ ∧ b < w.heap.size := by
  obtain ⟨b2, off2, e, hlt, _, _⟩ := h 0 _ (List.getElem?_eq_getElem hL)
  exact ⟨b2, off2, e, hlt⟩
/-- An entry's cells. -/
def enCells (x : En) : List Value := [.int .u64 (x.t : Nat), .string x.d]
def esCells (L : List En) : List Value := L.flatMap enCells
theorem esCells_snoc (L : List En) (x : En) : esCells (L ++ [x]) = esCells L ++ enCells x := by simp [esCells]
theorem esCells_app (L M : List En) : esCells (L ++ M) = esCells L ++ esCells M := by simp [esCells]
theorem esCells_len (L : List En) : (esCells L).length = L.length * 2 := by
  induction L with
  | nil => rfl
  | cons y L ih => simp only [esCells, List.flatMap_cons, List.length_append, List.length_cons] at ih ⊢; rw [ih]; simp [enCells]; omega
theorem esCells_at (L : List En) : ∀ (j : Nat) (x : En), L[j]? = some x → ∀ i (h : i < 2), (esCells L)[j * 2 + i]? = some ((enCells x)[i]'h) := by
  induction L with
  | nil => intro j x h; simp at h
  | cons y L ih =>
    intro j x h i hi
    cases j with
    | zero =>
      obtain rfl : y = x := by simpa using h
      simp only [esCells, List.flatMap_cons, Nat.zero_mul, Nat.zero_add]
      rw [List.getElem?_append_left (by simpa [enCells] using hi), List.getElem?_eq_getElem (by simpa [enCells] using hi)]
      rfl
    | succ j =>
      have h2 := ih j x (by simpa using h) i hi
      simp only [esCells, List.flatMap_cons]
      rw [List.getElem?_append_right (by simp [enCells]; omega)]
      have e : (j + 1) * 2 + i - (enCells y).length = j * 2 + i := by simp [enCells]; omega
      rw [e]; exact h2
theorem infoEntry : (Try.prog.info? 39).map (fun i => (i.zero, i.size, i.bytes)) = some (some (.agg #[.int .u64 0, .string ⟨#[]⟩]), 2, 24) := by kernel_rfl
theorem lt_of_row' {w : World} {b : Nat} {o : Obj} (hb : w.heap[b]? = some o) : b < w.heap.size := (Array.getElem?_eq_some_iff.1 hb).1
/-- Entries that a call has laid, read back; their block is the call's own. -/
theorem ents_of_owns {w : World} {B : Nat} {v : Value} {L : List En} (h : w.ownsRow B 39 2 v L.length (esCells L)) : ∃ a cap, v = .slice a L.length cap ∧ Ents w a L ∧ ∀ q, a = some q → B ≤ q.block := by
  rcases h.2 with ⟨rfl, h0⟩ | ⟨g, cap, cur, rfl, hB, hg, _, _, _, htake⟩
  · refine ⟨none, 0, by rw [h0], fun j x hx => ?_, fun q e => by cases e⟩
    have := (List.getElem?_eq_some_iff.1 hx).1; omega
  · refine ⟨_, cap, rfl, fun j x hx => ?_, fun q e => by cases e; exact hB⟩
    have hj := (List.getElem?_eq_some_iff.1 hx).1
    have c : ∀ i (hi : i < 2), w.cell? ⟨g, j * 2 + i, none⟩ = some ((enCells x)[i]'hi) := fun i hi => by
      rw [cell_of_row w g _ cur _ _ hg, ← Array.getElem?_toList]
      have h1 := esCells_at L j x hx i hi
      rw [← htake, List.getElem?_take_of_lt (by omega)] at h1
      exact h1
    exact ⟨g, 0, rfl, lt_of_row' hg, by simpa [enCells] using c 0 (by omega), by simpa [enCells] using c 1 (by omega)⟩
/-- The cells of entries in memory, as a row. -/
theorem ents_row {w : World} {b off : Nat} {L : List En} (h : Ents w (some ⟨b, off, none⟩) L) : ∀ j u, (esCells L)[j]? = some u → w.cell? ⟨b, off + j, none⟩ = some u := by
  intro j u hj
  have hlt := (List.getElem?_eq_some_iff.1 hj).1
  rw [esCells_len] at hlt
  obtain ⟨x, hx⟩ : ∃ x, L[j / 2]? = some x := ⟨_, List.getElem?_eq_getElem (by omega)⟩
  have e := esCells_at L (j / 2) x hx (j % 2) (by omega)
  rw [show j / 2 * 2 + j % 2 = j by omega, hj] at e
  obtain ⟨b', off', e1, _, c0, c1⟩ := h (j / 2) x hx
  cases e1
  have hcase : j % 2 = 0 ∨ j % 2 = 1 := by omega
  rcases hcase with h0 | h0
  · rw [show off + j = off + j / 2 * 2 by omega, c0]; simp only [h0] at e; simpa [enCells] using e.symm
  · rw [show off + j = off + j / 2 * 2 + 1 by omega, c1]; simp only [h0] at e; simpa [enCells] using e.symm
theorem oneEs (L : List En) : ∀ u ∈ esCells L, u.oneCell' = true := by
  intro u hu
  simp only [esCells, List.mem_flatMap] at hu
  obtain ⟨x, _, hx⟩ := hu
  simp only [enCells, List.mem_cons, List.not_mem_nil, or_false] at hx
  rcases hx with rfl | rfl <;> rfl
theorem addAny' (b off j : Nat) : (⟨b, off, none⟩ : Addr).add j = ⟨b, off + j, none⟩ := Addr.add_lit ..

/-- A log in a box. -/
structure Lb (w : World) (x : Nat) (base bt : Nat) (snap : ByteArray) (v : Value) : Prop where
  c0 : w.cell? ⟨x, 0, none⟩ = some (.int .u64 base)
  c1 : w.cell? ⟨x, 1, none⟩ = some (.int .u64 bt)
  c2 : w.cell? ⟨x, 2, none⟩ = some (.string snap)
  c3 : w.cell? ⟨x, 3, none⟩ = some v
  fz : ∀ j, w.frozen? ⟨x, j, none⟩ = false
  lt : x < w.heap.size
theorem Lb.new {w : World} {x : Nat} (hx : x = w.heap.size) (base bt : Nat) (snap : ByteArray) (v : Value) (T : TypeId) : Lb (w.alloc (.cells #[.int .u64 base, .int .u64 bt, .string snap, v] T)) x base bt snap v := by
  subst hx
  exact ⟨by simp [go_sem], by simp [go_sem], by simp [go_sem], by simp [go_sem], fun j => by simp [go_sem], by simp⟩
theorem Lb.zero {w : World} {x : Nat} (hx : x = w.heap.size) (T : TypeId) : Lb (w.alloc (.cells #[.int .u64 0, .int .u64 0, .string ⟨#[]⟩, .slice none 0 0] T)) x 0 0 ⟨#[]⟩ (.slice none 0 0) := Lb.new hx 0 0 _ _ T
theorem Lb.later {w w' : World} {x base bt : Nat} {snap : ByteArray} {v : Value} (h : Lb w x base bt snap v) (hb : Below w.heap.size w w') : Lb w' x base bt snap v :=
  ⟨(hb.cell (p := ⟨x, 0, none⟩) h.lt).trans h.c0, (hb.cell (p := ⟨x, 1, none⟩) h.lt).trans h.c1, (hb.cell (p := ⟨x, 2, none⟩) h.lt).trans h.c2, (hb.cell (p := ⟨x, 3, none⟩) h.lt).trans h.c3, fun j => (hb.frozen (p := ⟨x, j, none⟩) h.lt).trans (h.fz j), Nat.lt_of_lt_of_le h.lt hb.size⟩
theorem Lb.past {w : World} {x base bt : Nat} {snap : ByteArray} {v : Value} (h : Lb w x base bt snap v) (ob : Obj) : Lb (w.alloc ob) x base bt snap v := h.later ((Below.refl _ _).alloc (Nat.le_refl _) _)
theorem Lb.far {w : World} {x base bt : Nat} {snap : ByteArray} {v : Value} (h : Lb w x base bt snap v) {y : Nat} (hne : y ≠ x) (o : Nat) (u : Value) : Lb (w.setCell ⟨y, o, none⟩ u) x base bt snap v :=
  ⟨(World.cell?_setCell_far _ _ _ _ hne).trans h.c0, (World.cell?_setCell_far _ _ _ _ hne).trans h.c1, (World.cell?_setCell_far _ _ _ _ hne).trans h.c2, (World.cell?_setCell_far _ _ _ _ hne).trans h.c3, fun j => by simpa using h.fz j, by simpa using h.lt⟩
theorem Lb.put3 {w : World} {x base bt : Nat} {snap : ByteArray} {v : Value} (h : Lb w x base bt snap v) (u : Value) : Lb (w.setCell ⟨x, 3, none⟩ u) x base bt snap u := by
  obtain ⟨h0, h1, h2, h3, hf, hl⟩ := h
  exact ⟨by simp [go_sem, h0], by simp [go_sem, h1], by simp [go_sem, h2], by simp [go_sem, h3], fun j => by simpa using hf j, by simpa using hl⟩
end Go.Proofs.Ytkifgjgjhjhknaa
