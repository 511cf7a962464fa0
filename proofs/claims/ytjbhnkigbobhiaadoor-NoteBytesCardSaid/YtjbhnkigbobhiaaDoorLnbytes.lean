/- NoteBytes: which notes may be, and their bytes, are as the document says. -/
import Derived.Test.YtjbhnkigbobhiaaDoorKs
import Derived.Test.YtjbhnkigbobhiaaDoorVn
namespace Go.Proofs.YtjbhnkigbobhiaaDoor
open Go.RowKit

set_option maxHeartbeats 2000000 in
theorem law_NoteBytes (k : Int) (i t v : Nat) (d : ByteArray) (hd : d.size ≤ 140737488351232) (w : World) (hT : Tz w) :
    Calls Tryd.prog 3 #[.agg #[.int .i64 k, .int .u64 i, .int .u64 t, .int .u64 v, .string d]] w fun e w' => e = .returned (.bool true) ∧ Below w.heap.size w w' := by
  obtain ⟨S, E, h1, h2⟩ : ∃ (S : ByteArray) (E : Int), (∀ w, Tz w → Calls Tryd.prog 7 #[.agg #[.int .i64 k, .int .u64 i, .int .u64 t, .int .u64 v, .string d]] w fun e w' => e = .returned (.tuple #[.string S, .int .i64 E]) ∧ Below w.heap.size w w') ∧
      (∀ w, Calls Tryd.prog 8 #[.agg #[.int .i64 k, .int .u64 i, .int .u64 t, .int .u64 v, .string d]] w fun e w' => e = .returned (.tuple #[.string S, .int .i64 E]) ∧ Below w.heap.size w w') := by
    by_cases hok : (Nt.mk k i t v d).ok
    · exact ⟨⟨(noteB ⟨k, i, t, v, d⟩).toArray⟩, 0, fun w hT => pBytes_yes ⟨k, i, t, v, d⟩ w hok hT, fun w => refBytes_yes ⟨k, i, t, v, d⟩ w hok⟩
    · exact ⟨⟨#[]⟩, 1, fun w _ => pBytes_no ⟨k, i, t, v, d⟩ w hok (by simp only; omega), fun w => refBytes_no ⟨k, i, t, v, d⟩ w hok (by simp only; unfold maxLen; omega)⟩
  have H1 := Lib.hid h1
  have H2 := Lib.hid h2
  clear h1 h2
  go_enter Tryd.func3, Tryd.ntmps3
  go_wp2_with fail
  refine (shown_any _).mono ?_
  rintro e w1 ⟨rfl, hb1⟩
  have c0 : w1.cell? ⟨w.heap.size, 0, none⟩ = some (.int .i64 k) := (hb1.cell (p := ⟨w.heap.size, 0, none⟩) (by simp)).trans (by simp)
  have c1 : w1.cell? ⟨w.heap.size, 1, none⟩ = some (.int .u64 i) := (hb1.cell (p := ⟨w.heap.size, 1, none⟩) (by simp)).trans (by simp)
  have c2 : w1.cell? ⟨w.heap.size, 2, none⟩ = some (.int .u64 t) := (hb1.cell (p := ⟨w.heap.size, 2, none⟩) (by simp)).trans (by simp)
  have c3 : w1.cell? ⟨w.heap.size, 3, none⟩ = some (.int .u64 v) := (hb1.cell (p := ⟨w.heap.size, 3, none⟩) (by simp)).trans (by simp)
  have c4 : w1.cell? ⟨w.heap.size, 4, none⟩ = some (.string d) := (hb1.cell (p := ⟨w.heap.size, 4, none⟩) (by simp)).trans (by simp)
  have hx : w.heap.size < w1.heap.size := by have := hb1.size; simp at this; omega
  have B1 : Below w.heap.size w w1 := ((Below.refl _ w).alloc (Nat.le_refl _) _).trans (hb1.mono (by simp))
  clear hb1
  go_wp2_with fail
  refine (H1.out _ (hT.below (B1.mono hT.n))).mono ?_
  rintro e w2 ⟨rfl, hb2⟩
  have d0 := (hb2.cell (p := ⟨w.heap.size, 0, none⟩) hx).trans c0
  have d1 := (hb2.cell (p := ⟨w.heap.size, 1, none⟩) hx).trans c1
  have d2 := (hb2.cell (p := ⟨w.heap.size, 2, none⟩) hx).trans c2
  have d3 := (hb2.cell (p := ⟨w.heap.size, 3, none⟩) hx).trans c3
  have d4 := (hb2.cell (p := ⟨w.heap.size, 4, none⟩) hx).trans c4
  have B2 := B1.trans (hb2.mono B1.size)
  clear hb2 c0 c1 c2 c3 c4 B1
  go_wp2_with fail
  refine (H2.out _).mono ?_
  rintro e w3 ⟨rfl, hb3⟩
  have B3 := B2.trans (hb3.mono B2.size)
  clear hb3 d0 d1 d2 d3 d4 B2
  go_wp2_with fail
  go_ret
  exact ⟨by simp, B3⟩
end Go.Proofs.YtjbhnkigbobhiaaDoor
