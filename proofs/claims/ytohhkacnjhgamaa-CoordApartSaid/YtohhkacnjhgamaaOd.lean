/- The document's Find and May. -/
import Derived.Test.YtohhkacnjhgamaaOc
namespace Go.Proofs.Ytohhkacnjhgamaa
open Go.RowKit

/-- What Find answers: a deal where it lies, or none. -/
def FdP (w : World) (L : List Dl) (A : Cad) (t : Tx) (e : Ending) (w' : World) : Prop := ((fndC t L = none ∧ e = .returned (.tuple #[.agg #[.int .u64 0, .int .u64 0, .slice none 0 0, .int .i64 0], .bool false])) ∨ ∃ y ∈ A.om, fndC t L = some y.x ∧ e = .returned (.tuple #[dlV y, .bool true])) ∧ Below w.heap.size w w'
set_option maxRecDepth 100000 in
set_option maxHeartbeats 4000000 in
theorem rFind_any (L : List Dl) (A : Cad) (t : Tx) (hl : L.length ≤ 140737488351232) (w : World) (hM : CoM w L A) :
    Calls Try.prog 10 #[coV L A, txV t] w (FdP w L A t) := by
  obtain ⟨ta, ti⟩ := t
  obtain ⟨W, hW⟩ : ∃ W, ((w.alloc (.cells #[.slice A.a L.length A.c] 24)).alloc (.cells #[.int .u64 (ta : Nat), .int .u64 (ti : Nat)] 27)).alloc (.cells #[.int .u64 0, .int .u64 0, .slice none 0 0, .int .i64 0] 31) = W := ⟨_, rfl⟩
  obtain ⟨x2, hx2⟩ : ∃ x, w.heap.size = x := ⟨_, rfl⟩
  have hBX : Below w.heap.size w W ∧ x2 < W.heap.size ∧ W.cell? ⟨x2, 0, none⟩ = some (.slice A.a L.length A.c) ∧ TxBox W (x2 + 1) ⟨ta, ti⟩ ∧ x2 + 1 + 1 < W.heap.size ∧ (W.cell? ⟨x2 + 1 + 1, 0, none⟩ = some (.int .u64 0) ∧ W.cell? ⟨x2 + 1 + 1, 1, none⟩ = some (.int .u64 0) ∧ W.cell? ⟨x2 + 1 + 1, 2, none⟩ = some (.slice none 0 0) ∧ W.cell? ⟨x2 + 1 + 1, 3, none⟩ = some (.int .i64 0)) ∧ ∀ j, W.frozen? ⟨x2 + 1 + 1, j, none⟩ = false := by
    rw [← hW, ← hx2]
    exact ⟨by go_grown, by simp; omega, by simp [go_sem], ⟨by simp; try omega, by simp [go_sem], by simp [go_sem]⟩, by simp, ⟨by simp [go_sem], by simp [go_sem], by simp [go_sem], by simp [go_sem]⟩, fun j => by simp [go_sem]⟩
  have HBX := Lib.hid hBX
  have HPL := Lib.hid (rPlace_any L A ⟨ta, ti⟩ hl W (hM.later hBX.1))
  have HM := Lib.hid (hM.later hBX.1)
  have HW := Lib.hid hW
  have HX2 := Lib.hid hx2
  clear hM hBX hW hx2
  obtain ⟨_, _, c0, ⟨_, q0, q1⟩, _, _, _⟩ := HBX.out
  simp only at q0 q1
  go_enter Try.func10, Try.ntmps10
  go_wp2_with fail
  rw [HW.out, HX2.out]
  go_wp2_with fail
  refine HPL.out.mono ?_
  rintro e w2 ⟨rfl, hb2⟩
  have HB2 := Lib.hid (HBX.out.1.trans (hb2.mono HBX.out.1.size))
  have HM2 := Lib.hid (HM.out.later hb2)
  have f : ∀ j v, W.cell? ⟨x2 + 1 + 1, j, none⟩ = some v → w2.cell? ⟨x2 + 1 + 1, j, none⟩ = some v := fun j v e => (hb2.cell (p := ⟨x2 + 1 + 1, j, none⟩) HBX.out.2.2.2.2.1).trans e
  have d0 := f _ _ HBX.out.2.2.2.2.2.1.1
  have d1 := f _ _ HBX.out.2.2.2.2.2.1.2.1
  have d2 := f _ _ HBX.out.2.2.2.2.2.1.2.2.1
  have d3 := f _ _ HBX.out.2.2.2.2.2.1.2.2.2
  have c0' := (hb2.cell (p := ⟨x2, 0, none⟩) HBX.out.2.1).trans c0
  have fz : ∀ j, w2.frozen? ⟨x2 + 1 + 1, j, none⟩ = false := fun j => by
    have h := HBX.out.2.2.2.2.2.2 j
    simp only [World.frozen?] at h ⊢
    rw [hb2.block _ HBX.out.2.2.2.2.1]; exact h
  have HXW := Lib.hid (show w.heap.size ≤ x2 + 1 + 1 from by have := HX2.out; omega)
  clear hb2 f c0 q0 q1
  rcases pix_fnd ⟨ta, ti⟩ L 0 with ⟨h3, h4⟩ | ⟨j, y, h3, h4, h5⟩
  · rw [h3]
    have gI : ixI none = -1 := rfl
    rw [gI]
    clear gI h3
    have HF := Lib.hid h4
    clear h4
    go_wp2_with fail
    refine bodyPost_ret (v := .tuple #[.agg #[.int .u64 0, .int .u64 0, .slice none 0 0, .int .i64 0], .bool false]) (by simp [results, Try.results10, go_sem, d0, d1, d2, d3]) rfl ?_
    refine ⟨.inl ⟨HF.out, rfl⟩, ?_⟩
    exact ((((HB2.out.setCell HXW.out _).setCell HXW.out _).setCell HXW.out _).setCell HXW.out _)
  · rw [h3, Nat.zero_add]
    have gI : ixI (some j) = (j : Int) := rfl
    rw [gI]
    have hjl := (List.getElem?_eq_some_iff.1 h4).1
    obtain ⟨z, hz⟩ : ∃ z, A.om[j]? = some z := ⟨_, List.getElem?_eq_getElem (by rw [HM.out.olen]; exact hjl)⟩
    have hzx : z.x = y := by
      have h1 : (A.om.map fun y => y.x)[j]? = some z.x := by rw [List.getElem?_map, hz]; rfl
      rw [HM.out.om, h4] at h1
      exact (Option.some.inj h1).symm
    subst hzx
    have HF := Lib.hid h5
    have HZM := Lib.hid (List.mem_of_getElem? hz)
    obtain ⟨b, off, ha, _, p0, p1, p2, p3⟩ := Dlm.cells HM2.out.row hz
    rw [ha] at c0'
    have i0 : (0 : Int) ≤ (j : Int) := by omega
    have i1 : (j : Int) < (L.length : Int) := by omega
    have i2 : ¬ (j : Int) < 0 := by omega
    obtain ⟨⟨⟨ya, yi⟩, yp, ys⟩, pa, pc⟩ := z
    simp only at p0 p1 p2 p3 HF
    clear gI h3 h4 h5 hz ha hjl
    go_wp2_with fail
    refine bodyPost_ret (v := .tuple #[dlV ⟨⟨⟨ya, yi⟩, yp, ys⟩, pa, pc⟩, .bool true]) (by simp [results, Try.results10, go_sem, d0, d1, d2, d3]) rfl ?_
    refine ⟨.inr ⟨_, HZM.out, HF.out, rfl⟩, ?_⟩
    exact ((((HB2.out.setCell HXW.out _).setCell HXW.out _).setCell HXW.out _).setCell HXW.out _)
end Go.Proofs.Ytohhkacnjhgamaa
