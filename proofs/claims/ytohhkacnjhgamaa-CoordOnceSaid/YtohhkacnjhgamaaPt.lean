/- Two boxes of a law's round: a coordinator and an answer. -/
import Derived.Test.YtohhkacnjhgamaaPr
namespace Go.Proofs.Ytohhkacnjhgamaa
open Go.RowKit

/-- An answer in a box, all its fields letters. -/
theorem AnB.set5M {w : World} {x : Nat} (h : KB w x anK) (n : Nat) (es : ByteArray) (ev : Int) (ef b : Bool) : AnB (set5a w x (.int .i64 (n : Nat)) (.string es) (.int .u64 ev) (.bool ef) (.bool b)) x n b := by
  obtain ⟨u0, e0⟩ := h.so 0 (by decide)
  obtain ⟨u4, e4⟩ := h.so 4 (by decide)
  exact ⟨((((h.set (i := 0) (v := .int .i64 (n : Nat)) rfl).set (i := 1) (v := .string es) rfl).set (i := 2) (v := .int .u64 ev) rfl).set (i := 3) (v := .bool ef) rfl).set (i := 4) (v := .bool b) rfl, by simp [go_sem, e0], by simp [go_sem, e4]⟩
/-- The new box of a coordinator, the new box of an answer: what they come to. -/
structure TwBc (w0 wr U : World) (x8 x6 x7 : Nat) (L L' : List Dl) (A A' : Cad) (n : Nat) (b : Bool) : Prop where
  old : LBc w0 U x8 L A
  new : LBc w0 U x6 L' A'
  an : AnB U x7 n b
  n86 : x8 ≠ x6
  n87 : x8 ≠ x7
  n67 : x6 ≠ x7
  b : Below wr.heap.size wr U
/-- What stands ahead of the two stores. -/
structure TwAc (w0 wr V : World) (x8 x6 x7 : Nat) (L L' : List Dl) (A A' : Cad) : Prop where
  old : LBc w0 wr x8 L A
  m : CoM V L' A'
  k6 : KB V x6 [1]
  k7 : KB V x7 anK
  ne : ∀ y ∈ A'.om, NE y.a x7
  l6 : wr.heap.size ≤ x6
  l7 : wr.heap.size ≤ x7
  n67 : x6 ≠ x7
  b : Below wr.heap.size wr V
theorem TwAc.fin {w0 wr V : World} {x8 x6 x7 : Nat} {L L' : List Dl} {A A' : Cad} (n : Nat) (es : ByteArray) (ev : Int) (ef b : Bool) (h : TwAc w0 wr V x8 x6 x7 L L' A A') :
    ∀ U, U = set5a (V.setCell ⟨x6, 0, none⟩ (.slice A'.a L'.length A'.c)) x7 (.int .i64 (n : Nat)) (.string es) (.int .u64 ev) (.bool ef) (.bool b) → TwBc w0 wr U x8 x6 x7 L L' A A' n b := fun U hU => by
  have hlt := h.old.kb.lt
  have h6 := h.l6
  have h7 := h.l7
  have hol := h.old.l
  have hn := h.n67
  obtain ⟨V1, hV1⟩ : ∃ V1, V.setCell ⟨x6, 0, none⟩ (.slice A'.a L'.length A'.c) = V1 := ⟨_, rfl⟩
  have g1 : V.grownBy V1 (some x6) := hV1 ▸ sc_one _ _ _ _
  have m1 : CoM V1 L' A' := hV1 ▸ h.m.kb1 h.k6 _
  obtain ⟨u, e⟩ := h.k6.so 0 (by decide)
  have c1 : V1.cell? ⟨x6, 0, none⟩ = some (.slice A'.a L'.length A'.c) := by rw [← hV1]; simp [go_sem, e]
  have k1 : KB V1 x6 [1] := hV1 ▸ h.k6.set rfl
  have k7 : KB V1 x7 anK := h.k7.grownK g1 (by omega)
  rw [hV1] at hU
  have g2 : V1.grownBy U (some x7) := hU ▸ set5a_grown _ _ _ _ _ _ _
  have hb1 : Below wr.heap.size wr V1 := h.b.grown g1 h.b.size (fun z e => by cases e; exact h6)
  have hbU : Below wr.heap.size wr U := hb1.grown g2 hb1.size (fun z e => by cases e; exact h7)
  refine ⟨h.old.later hbU, ⟨k1.grownK g2 (by omega), (World.cell?_of_block (a := ⟨x6, 0, none⟩) (g2.block x6 k1.lt (by simp; omega))).trans c1, m1.grown g2 (Rw.notin m1.row k7 nofit_a) (fun y hy => (h.ne y hy).nb _), by omega⟩, hU ▸ AnB.set5M k7 n es ev ef b, by omega, by omega, h.n67, hbU⟩
end Go.Proofs.Ytohhkacnjhgamaa
