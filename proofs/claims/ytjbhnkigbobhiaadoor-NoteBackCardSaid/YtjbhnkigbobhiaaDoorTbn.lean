/- A variable of type tape in a box (where a seat has Install and Read alone). -/
import Derived.Test.YtjbhnkigbobhiaaDoorTin
import Derived.Deep.RegionHeld3
namespace Go.Proofs.YtjbhnkigbobhiaaDoor
open Go.RowKit

theorem four_far {w1 : World} {x y : Nat} (hne : x ≠ y) (i : Nat) (v0 v1 v2 v3 : Value) : ((((w1.setCell ⟨x, 0, none⟩ v0).setCell ⟨x, 1, none⟩ v1).setCell ⟨x, 2, none⟩ v2).setCell ⟨x, 3, none⟩ v3).cell? ⟨y, i, none⟩ = w1.cell? ⟨y, i, none⟩ := by
  rw [World.cell?_setCell_far _ _ _ _ hne, World.cell?_setCell_far _ _ _ _ hne, World.cell?_setCell_far _ _ _ _ hne, World.cell?_setCell_far _ _ _ _ hne]
/-- Four cells of a block written. -/
def set4 (w : World) (x : Nat) (v0 v1 v2 v3 : Value) : World := (((w.setCell ⟨x, 0, none⟩ v0).setCell ⟨x, 1, none⟩ v1).setCell ⟨x, 2, none⟩ v2).setCell ⟨x, 3, none⟩ v3
theorem set4_far {w1 : World} {x y : Nat} (hne : x ≠ y) (i : Nat) (v0 v1 v2 v3 : Value) : (set4 w1 x v0 v1 v2 v3).cell? ⟨y, i, none⟩ = w1.cell? ⟨y, i, none⟩ := four_far hne i v0 v1 v2 v3
theorem set4_at {w1 : World} {x : Nat} {u0 u1 u2 u3 v0 v1 v2 v3 : Value} (h0 : w1.cell? ⟨x, 0, none⟩ = some u0) (h1 : w1.cell? ⟨x, 1, none⟩ = some u1) (h2 : w1.cell? ⟨x, 2, none⟩ = some u2) (h3 : w1.cell? ⟨x, 3, none⟩ = some u3) :
    (set4 w1 x v0 v1 v2 v3).cell? ⟨x, 0, none⟩ = some v0 ∧ (set4 w1 x v0 v1 v2 v3).cell? ⟨x, 1, none⟩ = some v1 ∧ (set4 w1 x v0 v1 v2 v3).cell? ⟨x, 2, none⟩ = some v2 ∧ (set4 w1 x v0 v1 v2 v3).cell? ⟨x, 3, none⟩ = some v3 := by
  unfold set4; refine ⟨?_, ?_, ?_, ?_⟩ <;> simp [go_sem, h0, h1, h2, h3]
theorem set4_frozen {w1 : World} {x : Nat} {v0 v1 v2 v3 : Value} (p : Addr) : (set4 w1 x v0 v1 v2 v3).frozen? p = w1.frozen? p := by unfold set4; simp
theorem set4_size {w1 : World} {x : Nat} {v0 v1 v2 v3 : Value} : (set4 w1 x v0 v1 v2 v3).heap.size = w1.heap.size := by unfold set4; simp
theorem set4_below {w w1 : World} {B x : Nat} {v0 v1 v2 v3 : Value} (h : Below B w w1) (hx : B ≤ x) : Below B w (set4 w1 x v0 v1 v2 v3) := (((h.setCell hx _).setCell hx _).setCell hx _).setCell hx _

/-- A tape in block x. -/
structure Tb (w : World) (x : Nat) (a b : ByteArray) (p : Int) (o : Bool) : Prop where
  h0 : w.cell? ⟨x, 0, none⟩ = some (.string a)
  h1 : w.cell? ⟨x, 1, none⟩ = some (.string b)
  h2 : w.cell? ⟨x, 2, none⟩ = some (.int .i64 p)
  h3 : w.cell? ⟨x, 3, none⟩ = some (.bool o)
  fz : ∀ i, w.frozen? ⟨x, i, none⟩ = false
  hx : x < w.heap.size
theorem Tb.new (w : World) (x : Nat) (hx : x = w.heap.size) (t : TypeId) (a b : ByteArray) (p : Int) (o : Bool) : Tb (w.alloc (.cells #[.string a, .string b, .int .i64 p, .bool o] t)) x a b p o := by
  subst hx
  exact ⟨by simp, by simp, by simp, by simp, fun i => by simp, by simp⟩
theorem Tb.later {w w' : World} {x : Nat} {a b : ByteArray} {p : Int} {o : Bool} (T : Tb w x a b p o) (h : Below w.heap.size w w') : Tb w' x a b p o :=
  ⟨(h.cell (p := ⟨x, 0, none⟩) T.hx).trans T.h0, (h.cell (p := ⟨x, 1, none⟩) T.hx).trans T.h1, (h.cell (p := ⟨x, 2, none⟩) T.hx).trans T.h2, (h.cell (p := ⟨x, 3, none⟩) T.hx).trans T.h3, fun i => (h.frozen (p := ⟨x, i, none⟩) T.hx).trans (T.fz i), Nat.lt_of_lt_of_le T.hx h.size⟩
theorem Tb.past {w : World} {x : Nat} {a b : ByteArray} {p : Int} {o : Bool} (T : Tb w x a b p o) (ob : Obj) : Tb (w.alloc ob) x a b p o := T.later ((Below.refl _ _).alloc (Nat.le_refl _) _)
theorem Tb.set {w : World} {x : Nat} {a b : ByteArray} {p : Int} {o : Bool} (T : Tb w x a b p o) (a' b' : ByteArray) (p' : Int) (o' : Bool) : Tb (set4 w x (.string a') (.string b') (.int .i64 p') (.bool o')) x a' b' p' o' := by
  obtain ⟨g0, g1, g2, g3⟩ := set4_at (v0 := .string a') (v1 := .string b') (v2 := .int .i64 p') (v3 := .bool o') T.h0 T.h1 T.h2 T.h3
  exact ⟨g0, g1, g2, g3, fun i => by rw [set4_frozen]; exact T.fz i, by rw [set4_size]; exact T.hx⟩
theorem Tb.far {w : World} {x y : Nat} {a b : ByteArray} {p : Int} {o : Bool} (T : Tb w x a b p o) (hne : y ≠ x) (v0 v1 v2 v3 : Value) : Tb (set4 w y v0 v1 v2 v3) x a b p o :=
  ⟨(set4_far hne _ _ _ _ _).trans T.h0, (set4_far hne _ _ _ _ _).trans T.h1, (set4_far hne _ _ _ _ _).trans T.h2, (set4_far hne _ _ _ _ _).trans T.h3, fun i => by rw [set4_frozen]; exact T.fz i, by rw [set4_size]; exact T.hx⟩
end Go.Proofs.YtjbhnkigbobhiaaDoor
