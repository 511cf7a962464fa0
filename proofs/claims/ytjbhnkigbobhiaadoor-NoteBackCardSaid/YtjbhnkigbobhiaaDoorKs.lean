/- The document's example, at the head of all statements of layer 4. -/
import Derived.Test.YtjbhnkigbobhiaaDoorKh
namespace Go.Proofs.YtjbhnkigbobhiaaDoor
open Go.RowKit

def exL : List Nt := [⟨1, 0, 3, 2, ⟨#[]⟩⟩, ⟨2, 1, 3, 0, ⟨#[97]⟩⟩, ⟨2, 2, 3, 0, ⟨#[98]⟩⟩, ⟨3, 2, 0, 0, ⟨#[]⟩⟩]
def exN : Nt := ⟨4, 1, 3, 0, ⟨#[]⟩⟩
theorem fold_exL : Sg.fold exL = ⟨3, 2, 0, 0, ⟨#[]⟩, [⟨3, ⟨#[97]⟩⟩]⟩ := by simp [Sg.fold, exL, Sg.step, Sg.zero]
theorem fold_exN : Sg.fold (exL ++ [exN]) = ⟨3, 2, 1, 3, ⟨#[]⟩, []⟩ := by
  have e : Sg.fold (exL ++ [exN]) = (Sg.fold exL).step exN := by unfold Sg.fold; rw [List.foldl_append]; rfl
  rw [e, fold_exL]; simp [exN, Sg.step, keptL]
set_option maxRecDepth 100000 in
set_option maxHeartbeats 4000000 in
theorem shown_any (w : World) : Calls Tryd.prog 6 #[] w fun e w' => e = .returned (.bool true) ∧ Below w.heap.size w w' := by
  obtain ⟨i0, hi, hz0, hz1, hz2⟩ := info_parts infoNote
  have hown0 := World.ownsRow_lit (base := w.heap.size) (e := 24) (size := 5) w (ntsCells exL).toArray 4 (Nat.le_refl _) (by unfold maxLen; omega) rfl
  obtain ⟨a0, c0, e0, hN0⟩ := nts_of_owns (L := exL) hown0
  cases e0
  have HOW := Lib.hid hown0
  have HNT := Lib.hid hN0
  have HI := Lib.hid hi
  have HZ0 := Lib.hid hz0
  have HZ1 := Lib.hid hz1
  have HZ2 := Lib.hid hz2
  clear hown0 hN0 hi hz0 hz1 hz2
  go_enter Tryd.func6, Tryd.ntmps6
  go_wp2_with fail
  refine (pFold_any _ 4 4 exL rfl (by omega) _ HNT.out).mono ?_
  rintro e w1 ⟨a1, c1, rfl, _, hb1⟩
  have hown1 := HOW.out.kept ⟨hb1.os, hb1.tape, hb1.output, hb1.size, fun k hk _ => hb1.block k hk⟩ (row := none) (.inr (by simp [Value.ownBlock]))
  have B1 : Below w.heap.size w w1 := ((Below.refl _ w).alloc (Nat.le_refl _) _).trans (hb1.mono (by simp))
  have hsz1 : w.heap.size < w1.heap.size := by have := hb1.size; simp at this; omega
  rw [fold_exL]
  clear hb1
  have HO1 := Lib.hid hown1
  clear hown1
  go_wp2_with (at_builtin; refine wpList_append_own _ rfl _ _ 38 rfl w.heap.size 24 i0 (.agg #[.int .i64 0, .int .u64 0, .int .u64 0, .int .u64 0, .string ⟨#[]⟩]) 5 48 Tryd.underlying38 HI.out HZ0.out HZ1.out HZ2.out rfl (by decide) _ _ _ rfl ((HO1.out.alloc _).alloc _) ⟨w1.heap.size + 1, 0, none⟩ 1 1 (ntCells exN) rfl rfl ?c1 ?c2 ?c3 ?c4 ?c5 ?_)
  case c1 => intro j u hj; rw [addHead]; exact (World.cell?_alloc_at _ _ _ _ (by simp)).trans (by rw [List.getElem?_toArray.symm] at hj; exact hj)
  case c2 => intro u hu; simp only [exN, ntCells, List.mem_cons, List.not_mem_nil, or_false] at hu; rcases hu with rfl | rfl | rfl | rfl | rfl <;> rfl
  case c3 => unfold maxLen; omega
  case c4 => omega
  case c5 => simp; omega
  intro v' w3 hown3 hgrow _
  obtain ⟨a2, c2, rfl, hN2⟩ := nts_of_owns (L := exL ++ [exN]) (by rw [ntsCells_snoc]; exact hown3)
  have hbk : ∀ j, w3.cell? ⟨w1.heap.size, j, none⟩ = (w1.alloc (.cells #[.int .u64 3, .int .u64 2, .int .u64 0, .int .u64 0, .string ⟨#[]⟩, .slice a1 1 c1] 36)).cell? ⟨w1.heap.size, j, none⟩ := fun j => by
    have h1 := World.cell?_of_block (w := (w1.alloc (.cells #[.int .u64 3, .int .u64 2, .int .u64 0, .int .u64 0, .string ⟨#[]⟩, .slice a1 1 c1] 36)).alloc (.cells (ntCells exN).toArray 24)) (a := ⟨w1.heap.size, j, none⟩) (hgrow.block w1.heap.size (by simp; omega) (by simp [Value.ownBlock]; omega))
    rw [h1]
    exact World.cell?_of_block (a := ⟨w1.heap.size, j, none⟩) (Below.heap_alloc _ _ _ (by simp))
  have x0 := (hbk 0).trans (by simp [go_sem] : _ = some (.int .u64 3))
  have x1 := (hbk 1).trans (by simp [go_sem] : _ = some (.int .u64 2))
  have x5 := (hbk 5).trans (by simp [go_sem] : _ = some (.slice a1 1 c1))
  have B3 : Below w.heap.size w w3 := ((B1.alloc (by omega) _).alloc (by simp; omega) _).grown hgrow (by simp; omega) (fun k e => by simp [Value.ownBlock] at e; omega)
  have hsz3 : w1.heap.size < w3.heap.size := by have := hgrow.size; simp at this; omega
  clear hown3 hgrow hbk
  have HN2 := Lib.hid hN2
  clear hN2
  go_wp2_with fail
  refine (pFold_any _ 5 _ (exL ++ [exN]) rfl (by omega) _ HN2.out).mono ?_
  rintro e w4 ⟨a3, c3, rfl, _, hb4⟩
  rw [fold_exN]
  have y0 := (hb4.cell (p := ⟨w1.heap.size, 0, none⟩) hsz3).trans x0
  have y1 := (hb4.cell (p := ⟨w1.heap.size, 1, none⟩) hsz3).trans x1
  have y5 := (hb4.cell (p := ⟨w1.heap.size, 5, none⟩) hsz3).trans x5
  have B4 := B3.trans (hb4.mono B3.size)
  have hsz4 : w1.heap.size < w4.heap.size := Nat.lt_of_lt_of_le hsz3 hb4.size
  have hB5 : Below w.heap.size w (w4.alloc (.cells #[.int .u64 3, .int .u64 2, .int .u64 1, .int .u64 3, .string ⟨#[]⟩, .slice a3 0 c3] 36)) := B4.alloc B4.size _
  have HB := Lib.hid hB5
  clear hb4 x0 x1 x5 B1 B3 B4 hB5
  go_wp2_with fail
  go_ret
  exact ⟨rfl, HB.out⟩
end Go.Proofs.YtjbhnkigbobhiaaDoor
