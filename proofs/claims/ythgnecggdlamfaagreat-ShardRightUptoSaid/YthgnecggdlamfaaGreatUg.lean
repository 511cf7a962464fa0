/- One put: the document's Do. -/
import Derived.Test.YthgnecggdlamfaaGreatUf
namespace Go.Proofs.YthgnecggdlamfaaGreat
open Go.RowKit

/-- Three cells in a box. -/
structure B3 (w : World) (x : Nat) (u v z : Value) : Prop where
  c0 : w.cell? ⟨x, 0, none⟩ = some u
  c1 : w.cell? ⟨x, 1, none⟩ = some v
  c2 : w.cell? ⟨x, 2, none⟩ = some z
  lt : x < w.heap.size
theorem B3.new {w : World} {x : Nat} (hx : x = w.heap.size) (u v z : Value) (T : TypeId) : B3 (w.alloc (.cells #[u, v, z] T)) x u v z := by
  subst hx
  exact ⟨by simp [go_sem], by simp [go_sem], by simp [go_sem], by simp⟩
theorem B3.under {w w' : World} {x B : Nat} {u v z : Value} (h : B3 w x u v z) (hx : x < B) (hb : Below B w w') : B3 w' x u v z :=
  ⟨(hb.cell (p := ⟨x, 0, none⟩) hx).trans h.c0, (hb.cell (p := ⟨x, 1, none⟩) hx).trans h.c1, (hb.cell (p := ⟨x, 2, none⟩) hx).trans h.c2, Nat.lt_of_lt_of_le h.lt hb.size⟩
theorem B3.later {w w' : World} {x : Nat} {u v z : Value} (h : B3 w x u v z) (hb : Below w.heap.size w w') : B3 w' x u v z := h.under h.lt hb
theorem B3.past {w : World} {x : Nat} {u v z : Value} (h : B3 w x u v z) (ob : Obj) : B3 (w.alloc ob) x u v z := h.later ((Below.refl _ _).alloc (Nat.le_refl _) _)
/-- What Do and All answer. -/
def DoP (w : World) (r : List Ro × Nat) (e : Ending) (w' : World) : Prop := ∃ (a : Option Addr) (c : Nat), e = .returned (.tuple #[.slice a r.1.length c, .int .i64 (r.2 : Nat)]) ∧ Ros w' a r.1 ∧ (0 < r.1.length → ∀ q, a = some q → w.heap.size ≤ q.block) ∧ Below w.heap.size w w'
/-- What is known in a round: the rows that are laid, the two boxes, the row that is looked at. -/
structure DoS (W1 : World) (bx x12 b o : Nat) (pk pv : ByteArray) (pg : Bool) (ver : Nat) (v : Value) (O : List Ro) (xk xv : ByteArray) (xn : Nat) (w : World) : Prop where
  hB : Below W1.heap.size W1 w
  hC : CqR W1.heap.size w v O
  hP : B3 w bx (.string pk) (.string pv) (.bool pg)
  hR : B3 w x12 (.string pk) (.string pv) (.int .u64 (ver : Nat))
  p0 : w.cell? ⟨b, o, none⟩ = some (.string xk)
  p1 : w.cell? ⟨b, o + 1, none⟩ = some (.string xv)
  p2 : w.cell? ⟨b, o + 2, none⟩ = some (.int .u64 (xn : Nat))
theorem DoS.drew {W1 w : World} {bx x12 b o : Nat} {pk pv : ByteArray} {pg : Bool} {ver : Nat} {v : Value} {O : List Ro} {xk xv : ByteArray} {xn : Nat} (h : DoS W1 bx x12 b o pk pv pg ver v O xk xv xn w) (q : Nat) : DoS W1 bx x12 b o pk pv pg ver v O xk xv xn (w.drewN q) := by
  have h0 : Below w.heap.size w (w.drewN q) := below_drewN (Below.refl _ _) q
  exact ⟨below_drewN h.hB q, h.hC.later h0, h.hP.later h0, h.hR.later h0, h.p0, h.p1, h.p2⟩
theorem fitsX_one (p : Pu) : fitsX [p] = 0 ∨ fitsX [p] = 1 := by
  unfold fitsX
  rw [if_neg (by simp)]
  split <;> simp
end Go.Proofs.YthgnecggdlamfaaGreat
