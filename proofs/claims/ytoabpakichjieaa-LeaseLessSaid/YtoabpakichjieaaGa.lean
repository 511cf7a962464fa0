/- Lists of numbers, marks, and configurations in memory, in plain words. -/
import Derived.Test.YtoabpakichjieaaRows
import Derived.WalkKit
import Derived.WalkSpells
import Derived.WalkLawsBesides
import Derived.Lib.Hide
import Derived.Handy
import Derived.IntWalk
import Derived.Deep.QuietTactic
import Derived.BigQuiet
import Derived.Laws.StructEq
import Derived.WalkSmall
import Derived.Laws.AppendOwn
import Derived.Laws.OwnMore
import Derived.OwnWalk
import Derived.Deep.RegionHeld
import Derived.ArgAppend
namespace Go.Proofs.Ytoabpakichjieaa
open Go.RowKit

/-- Numbers in memory. -/
def Us (w : World) (a : Option Addr) (L : List Nat) : Prop :=
  ∀ j x, L[j]? = some x → ∃ b off, a = some ⟨b, off, none⟩ ∧ b < w.heap.size ∧ w.cell? ⟨b, off + j, none⟩ = some (.int .u64 (x : Nat))
theorem Us.later {w w' : World} {a : Option Addr} {L : List Nat} (h : Us w a L) (hb : Below w.heap.size w w') : Us w' a L := fun j x hx => by
  obtain ⟨b, off, e, hlt, c⟩ := h j x hx
  exact ⟨b, off, e, Nat.lt_of_lt_of_le hlt hb.size, (hb.cell (p := ⟨b, off + j, none⟩) hlt).trans c⟩
theorem Us.nil (w : World) (a : Option Addr) : Us w a [] := fun j x hx => by simp at hx
theorem Us.take {w : World} {a : Option Addr} {L : List Nat} (h : Us w a L) (k : Nat) : Us w a (L.take k) := fun j x hx => by
  have hj := (List.getElem?_eq_some_iff.1 hx).1
  rw [List.length_take] at hj
  rw [List.getElem?_take_of_lt (by omega)] at hx
  exact h j x hx
theorem Us.set {w : World} {a : Option Addr} {L : List Nat} (h : Us w a L) {x : Nat} (hne : ∀ q, a = some q → q.block ≠ x) (o : Nat) (v : Value) : Us (w.setCell ⟨x, o, none⟩ v) a L := fun j y hy => by
  obtain ⟨b, off, e, hlt, c⟩ := h j y hy
  have hb : x ≠ b := fun h => hne _ e h.symm
  exact ⟨b, off, e, by simpa using hlt, (World.cell?_setCell_far _ _ _ _ hb).trans c⟩
theorem Us.set' {w : World} {a : Option Addr} {L : List Nat} (h : Us w a L) {x : Nat} (hne : 0 < L.length → ∀ q, a = some q → q.block ≠ x) (o : Nat) (v : Value) : Us (w.setCell ⟨x, o, none⟩ v) a L := by
  rcases Nat.eq_zero_or_pos L.length with h0 | h0
  · rw [List.length_eq_zero_iff.1 h0]; exact Us.nil _ _
  · exact h.set (hne h0) o v
theorem Us.addr {w : World} {a : Option Addr} {L : List Nat} (h : Us w a L) (hL : 0 < L.length) : ∃ b off, a = some ⟨b, off, none⟩ ∧ b < w.heap.size := by
  obtain ⟨b2, off2, e, hlt, _⟩ := h 0 _ (List.getElem?_eq_getElem hL)
  exact ⟨b2, off2, e, hlt⟩
/-- Numbers' cells. -/
def usCells (L : List Nat) : List Value := L.map fun x => Value.int .u64 (x : Nat)
theorem usCells_len (L : List Nat) : (usCells L).length = L.length := by simp [usCells]
theorem usCells_at (L : List Nat) (j x : Nat) (h : L[j]? = some x) : (usCells L)[j]? = some (.int .u64 (x : Nat)) := by simp [usCells, h]
theorem usCells_snoc (L : List Nat) (x : Nat) : usCells (L ++ [x]) = usCells L ++ [.int .u64 (x : Nat)] := by simp [usCells]
theorem usCells_app (L M : List Nat) : usCells (L ++ M) = usCells L ++ usCells M := by simp [usCells]
theorem oneUs (L : List Nat) : ∀ u ∈ usCells L, u.oneCell' = true := by
  intro u hu; simp only [usCells, List.mem_map] at hu; obtain ⟨x, _, rfl⟩ := hu; rfl
theorem us_row {w : World} {b off : Nat} {L : List Nat} (h : Us w (some ⟨b, off, none⟩) L) : ∀ j u, (usCells L)[j]? = some u → w.cell? ⟨b, off + j, none⟩ = some u := by
  intro j u hj
  have hlt := (List.getElem?_eq_some_iff.1 hj).1
  rw [usCells_len] at hlt
  obtain ⟨x, hx⟩ : ∃ x, L[j]? = some x := ⟨_, List.getElem?_eq_getElem hlt⟩
  obtain ⟨b', off', e1, _, c⟩ := h j x hx
  cases e1
  rw [usCells_at L j x hx] at hj
  rw [c]; exact hj
theorem lt_of_row {w : World} {b : Nat} {o : Obj} (hb : w.heap[b]? = some o) : b < w.heap.size := (Array.getElem?_eq_some_iff.1 hb).1
theorem infoU64 : (Try.prog.info? 22).map (fun i => (i.zero, i.size, i.bytes)) = some (some (.int .u64 0), 1, 8) := by kernel_rfl
/-- Numbers that a call has laid, read back; their block is the call's own. -/
theorem us_of_owns {w : World} {B : Nat} {v : Value} {L : List Nat} (h : w.ownsRow B 22 1 v L.length (usCells L)) : ∃ a cap, v = .slice a L.length cap ∧ L.length ≤ cap ∧ Us w a L ∧ ∀ q, a = some q → B ≤ q.block := by
  rcases h.2 with ⟨rfl, h0⟩ | ⟨g, cap, cur, rfl, hB, hg, h1, h2, h3, htake⟩
  · refine ⟨none, 0, by rw [h0], by omega, fun j x hx => ?_, fun q e => by cases e⟩
    have := (List.getElem?_eq_some_iff.1 hx).1; omega
  · refine ⟨_, cap, rfl, by omega, fun j x hx => ?_, fun q e => by cases e; exact hB⟩
    refine ⟨g, 0, rfl, lt_of_row hg, ?_⟩
    rw [cell_of_row w g _ cur _ _ hg, ← Array.getElem?_toList]
    have h1 := usCells_at L j x hx
    have hj := (List.getElem?_eq_some_iff.1 hx).1
    rw [← htake, List.getElem?_take_of_lt (by omega)] at h1
    rw [Nat.zero_add]; exact h1

/-- A mark. -/
structure Mk where
  id : Nat
  n : Nat
/-- Marks in memory. -/
def Ms (w : World) (a : Option Addr) (L : List Mk) : Prop :=
  ∀ j x, L[j]? = some x → ∃ b off, a = some ⟨b, off, none⟩ ∧ b < w.heap.size ∧ w.cell? ⟨b, off + j * 2, none⟩ = some (.int .u64 (x.id : Nat)) ∧ w.cell? ⟨b, off + j * 2 + 1, none⟩ = some (.int .u64 (x.n : Nat))
theorem Ms.later {w w' : World} {a : Option Addr} {L : List Mk} (h : Ms w a L) (hb : Below w.heap.size w w') : Ms w' a L := fun j x hx => by
  obtain ⟨b, off, e, hlt, c0, c1⟩ := h j x hx
  exact ⟨b, off, e, Nat.lt_of_lt_of_le hlt hb.size, (hb.cell (p := ⟨b, off + j * 2, none⟩) hlt).trans c0, (hb.cell (p := ⟨b, off + j * 2 + 1, none⟩) hlt).trans c1⟩
theorem Ms.addr {w : World} {a : Option Addr} {L : List Mk} (h : Ms w a L) (hL : 0 < L.length) : ∃ b off, a = some ⟨b, off, none⟩ ∧ b < w.heap.size := by
  obtain ⟨b2, off2, e, hlt, _, _⟩ := h 0 _ (List.getElem?_eq_getElem hL)
  exact ⟨b2, off2, e, hlt⟩
def mkCells (x : Mk) : List Value := [.int .u64 (x.id : Nat), .int .u64 (x.n : Nat)]
def msCells (L : List Mk) : List Value := L.flatMap mkCells
theorem msCells_snoc (L : List Mk) (x : Mk) : msCells (L ++ [x]) = msCells L ++ mkCells x := by simp [msCells]
theorem msCells_len (L : List Mk) : (msCells L).length = L.length * 2 := by
  induction L with
  | nil => rfl
  | cons y L ih => simp only [msCells, List.flatMap_cons, List.length_append, List.length_cons] at ih ⊢; rw [ih]; simp [mkCells]; omega
theorem msCells_at (L : List Mk) : ∀ (j : Nat) (x : Mk), L[j]? = some x → ∀ i (h : i < 2), (msCells L)[j * 2 + i]? = some ((mkCells x)[i]'h) := by
  induction L with
  | nil => intro j x h; simp at h
  | cons y L ih =>
    intro j x h i hi
    cases j with
    | zero =>
      obtain rfl : y = x := by simpa using h
      simp only [msCells, List.flatMap_cons, Nat.zero_mul, Nat.zero_add]
      rw [List.getElem?_append_left (by simpa [mkCells] using hi), List.getElem?_eq_getElem (by simpa [mkCells] using hi)]
      rfl
    | succ j =>
      have h2 := ih j x (by simpa using h) i hi
      simp only [msCells, List.flatMap_cons]
      rw [List.getElem?_append_right (by simp [mkCells]; omega)]
      have e : (j + 1) * 2 + i - (mkCells y).length = j * 2 + i := by simp [mkCells]; omega
      rw [e]; exact h2
theorem infoMark : (Try.prog.info? 42).map (fun i => (i.zero, i.size, i.bytes)) = some (some (.agg #[.int .u64 0, .int .u64 0]), 2, 16) := by kernel_rfl
theorem ms_of_owns {w : World} {B : Nat} {v : Value} {L : List Mk} (h : w.ownsRow B 42 2 v L.length (msCells L)) : ∃ a cap, v = .slice a L.length cap ∧ Ms w a L ∧ ∀ q, a = some q → B ≤ q.block := by
  rcases h.2 with ⟨rfl, h0⟩ | ⟨g, cap, cur, rfl, hB, hg, _, _, _, htake⟩
  · refine ⟨none, 0, by rw [h0], fun j x hx => ?_, fun q e => by cases e⟩
    have := (List.getElem?_eq_some_iff.1 hx).1; omega
  · refine ⟨_, cap, rfl, fun j x hx => ?_, fun q e => by cases e; exact hB⟩
    have hj := (List.getElem?_eq_some_iff.1 hx).1
    have c : ∀ i (hi : i < 2), w.cell? ⟨g, j * 2 + i, none⟩ = some ((mkCells x)[i]'hi) := fun i hi => by
      rw [cell_of_row w g _ cur _ _ hg, ← Array.getElem?_toList]
      have h1 := msCells_at L j x hx i hi
      rw [← htake, List.getElem?_take_of_lt (by omega)] at h1
      exact h1
    exact ⟨g, 0, rfl, lt_of_row hg, by simpa [mkCells] using c 0 (by omega), by simpa [mkCells] using c 1 (by omega)⟩
theorem ms_row {w : World} {b off : Nat} {L : List Mk} (h : Ms w (some ⟨b, off, none⟩) L) : ∀ j u, (msCells L)[j]? = some u → w.cell? ⟨b, off + j, none⟩ = some u := by
  intro j u hj
  have hlt := (List.getElem?_eq_some_iff.1 hj).1
  rw [msCells_len] at hlt
  obtain ⟨x, hx⟩ : ∃ x, L[j / 2]? = some x := ⟨_, List.getElem?_eq_getElem (by omega)⟩
  have e := msCells_at L (j / 2) x hx (j % 2) (by omega)
  rw [show j / 2 * 2 + j % 2 = j by omega, hj] at e
  obtain ⟨b', off', e1, _, c0, c1⟩ := h (j / 2) x hx
  cases e1
  have hcase : j % 2 = 0 ∨ j % 2 = 1 := by omega
  rcases hcase with h0 | h0
  · rw [show off + j = off + j / 2 * 2 by omega, c0]; simp only [h0] at e; simpa [mkCells] using e.symm
  · rw [show off + j = off + j / 2 * 2 + 1 by omega, c1]; simp only [h0] at e; simpa [mkCells] using e.symm
theorem oneMs (L : List Mk) : ∀ u ∈ msCells L, u.oneCell' = true := by
  intro u hu
  simp only [msCells, List.mem_flatMap] at hu
  obtain ⟨x, _, hx⟩ := hu
  simp only [mkCells, List.mem_cons, List.not_mem_nil, or_false] at hx
  rcases hx with rfl | rfl <;> rfl
theorem addAny (b off j : Nat) : (⟨b, off, none⟩ : Addr).add j = ⟨b, off + j, none⟩ := Addr.add_lit ..

/-- A configuration in a box. -/
structure Cb (w : World) (x : Nat) (u v : Value) : Prop where
  c0 : w.cell? ⟨x, 0, none⟩ = some u
  c1 : w.cell? ⟨x, 1, none⟩ = some v
  fz : ∀ j, w.frozen? ⟨x, j, none⟩ = false
  lt : x < w.heap.size
theorem Cb.new {w : World} {x : Nat} (hx : x = w.heap.size) (u v : Value) (T : TypeId) : Cb (w.alloc (.cells #[u, v] T)) x u v := by
  subst hx
  exact ⟨by simp [go_sem], by simp [go_sem], fun j => by simp [go_sem], by simp⟩
theorem Cb.later {w w' : World} {x : Nat} {u v : Value} (h : Cb w x u v) (hb : Below w.heap.size w w') : Cb w' x u v :=
  ⟨(hb.cell (p := ⟨x, 0, none⟩) h.lt).trans h.c0, (hb.cell (p := ⟨x, 1, none⟩) h.lt).trans h.c1, fun j => (hb.frozen (p := ⟨x, j, none⟩) h.lt).trans (h.fz j), Nat.lt_of_lt_of_le h.lt hb.size⟩
theorem Cb.under {w w' : World} {x B : Nat} {u v : Value} (h : Cb w x u v) (hx : x < B) (hb : Below B w w') : Cb w' x u v :=
  ⟨(hb.cell (p := ⟨x, 0, none⟩) hx).trans h.c0, (hb.cell (p := ⟨x, 1, none⟩) hx).trans h.c1, fun j => (hb.frozen (p := ⟨x, j, none⟩) hx).trans (h.fz j), Nat.lt_of_lt_of_le h.lt hb.size⟩
theorem Cb.past {w : World} {x : Nat} {u v : Value} (h : Cb w x u v) (ob : Obj) : Cb (w.alloc ob) x u v := h.later ((Below.refl _ _).alloc (Nat.le_refl _) _)
theorem Cb.far {w : World} {x : Nat} {u v : Value} (h : Cb w x u v) {y : Nat} (hne : y ≠ x) (o : Nat) (z : Value) : Cb (w.setCell ⟨y, o, none⟩ z) x u v :=
  ⟨(World.cell?_setCell_far _ _ _ _ hne).trans h.c0, (World.cell?_setCell_far _ _ _ _ hne).trans h.c1, fun j => by simpa using h.fz j, by simpa using h.lt⟩
theorem Cb.put {w : World} {x : Nat} {u v : Value} (h : Cb w x u v) (u' v' : Value) : Cb ((w.setCell ⟨x, 0, none⟩ u').setCell ⟨x, 1, none⟩ v') x u' v' := by
  obtain ⟨h0, h1, hf, hl⟩ := h
  exact ⟨by simp [go_sem, h0], by simp [go_sem, h1], fun j => by simpa using hf j, by simpa using hl⟩
/-- A number in a box of its own. -/
structure Nb (w : World) (h : Nat) (v : Nat) : Prop where
  c : w.cell? ⟨h, 0, none⟩ = some (.int .u64 v)
  fz : w.frozen? ⟨h, 0, none⟩ = false
  lt : h < w.heap.size
theorem Nb.new {w : World} {x : Nat} (hx : x = w.heap.size) (v : Nat) (T : TypeId) : Nb (w.alloc (.cells #[.int .u64 v] T)) x v := by
  subst hx
  exact ⟨by simp [go_sem], by simp [go_sem], by simp⟩
theorem Nb.later {w w' : World} {h v : Nat} (H : Nb w h v) (hb : Below w.heap.size w w') : Nb w' h v := ⟨(hb.cell (p := ⟨h, 0, none⟩) H.lt).trans H.c, (hb.frozen (p := ⟨h, 0, none⟩) H.lt).trans H.fz, Nat.lt_of_lt_of_le H.lt hb.size⟩

@[reducible] def cfV (a : Option Addr) (n c : Nat) (a2 : Option Addr) (n2 c2 : Nat) : Value := .agg #[.slice a n c, .slice a2 n2 c2]

/-- Whether a number is in a list. -/
def hasN (v : Nat) : List Nat → Bool
  | [] => false
  | x :: r => decide (x = v) || hasN v r
theorem hasN_at {v k x : Nat} {L : List Nat} (hx : L[k]? = some x) : hasN v (L.drop k) = (decide (x = v) || hasN v (L.drop (k + 1))) := by
  obtain ⟨hk, rfl⟩ := List.getElem?_eq_some_iff.1 hx
  rw [List.drop_eq_getElem_cons hk]; rfl
theorem hasN_iff {v : Nat} {L : List Nat} : hasN v L = true ↔ v ∈ L := by
  induction L with
  | nil => simp [hasN]
  | cons x r ih =>
    simp only [hasN, Bool.or_eq_true, decide_eq_true_eq, ih, List.mem_cons]
    exact ⟨fun h => h.imp Eq.symm id, fun h => h.imp Eq.symm id⟩
theorem hasN_not {v : Nat} {L : List Nat} : hasN v L = false ↔ v ∉ L := by rw [← hasN_iff]; simp
/-- A mark's number, and whether there is one. -/
def markN (id : Nat) : List Mk → Nat × Bool
  | [] => (0, false)
  | x :: r => if x.id = id then (x.n, true) else markN id r
theorem markN_at {id k : Nat} {x : Mk} {L : List Mk} (hx : L[k]? = some x) : markN id (L.drop k) = if x.id = id then (x.n, true) else markN id (L.drop (k + 1)) := by
  obtain ⟨hk, rfl⟩ := List.getElem?_eq_some_iff.1 hx
  rw [List.drop_eq_getElem_cons hk]; rfl
end Go.Proofs.Ytoabpakichjieaa
