/- The tables that the rows list: what they hold, and a world that holds them. -/
import Derived.Test.YtifdgjmbecilhaaDoorPlay
import Derived.ProofKit
import Derived.OpenShut
import Derived.ChangeOld
import Derived.Deep.DeepHandedRow
import Derived.Lib.LaidTab
import Derived.LaidSub
namespace Go.Proofs.YtifdgjmbecilhaaDoor
open Go.ChangeShapes Go.WideShapes Go.ChangeAt Go.RowKit

theorem own : ownKnob Tryd.prog.godebug = none := by kernel_rfl
theorem laidOut : laidOutB Tryd.prog = true := by kernel_rfl
def tab64 : List Int := [0, 1, 56, 2, 57, 49, 28, 3, 61, 58, 42, 50, 38, 29, 17, 4, 62, 47, 59, 36, 45, 43, 51, 22, 53, 39, 33, 30, 24, 18, 12, 5, 63, 55, 48, 27, 60, 41, 37, 16, 46, 35, 44, 21, 52, 32, 23, 11, 54, 26, 40, 15, 34, 20, 31, 10, 25, 14, 19, 9, 13, 8, 7, 6]
def tab32 : List Int := [0, 1, 28, 2, 29, 14, 24, 3, 30, 22, 20, 15, 25, 17, 4, 8, 31, 27, 13, 23, 21, 19, 16, 7, 26, 12, 18, 6, 11, 5, 10, 9]
theorem g64 : Tryd.prog.globalNamed "math/bits.deBruijn64tab" = some 1 := by kernel_rfl
theorem g64Type : (Tryd.prog.globals[1]?).map (·.type) = some 110 := by kernel_rfl
theorem cells64 : Tryd.prog.cellsOf 110 = 64 := by kernel_rfl
theorem cellsU8 : Tryd.prog.cellsOf 5 = 1 := by kernel_rfl
theorem tz_of_tab {W : World} (h : Lib.TabIs Tryd.prog W "math/bits.deBruijn64tab" .u8 tab64) : Tz W := by
  have c := fun i hi => h.cell g64 i hi
  have c0 := c 0 (by decide)
  refine ⟨?_, c0, c 1 (by decide), c 3 (by decide), c 7 (by decide)⟩
  rcases Nat.lt_or_ge W.heap.size 2 with hlt | hge
  · have : W.cell? ⟨1, 0, none⟩ = none := by simp [World.cell?, Array.getElem?_eq_none (show W.heap.size ≤ 1 by omega)]
    rw [this] at c0; cases c0
  · exact hge
theorem tabs_of {W : World} (h : laidMetH Tryd.prog Rows.rowsRightRow.laid W) : Tz W := by
  refine tz_of_tab ?_
  have h2 := laidMetH.filter (fun x => x.1 == "math/bits.deBruijn64tab") h
  exact Lib.tabIs_of_head (rest := []) g64 g64Type Tryd.underlying110 Tryd.underlying5 cellsU8 cells64 h2
/-- A block's cells replaced. -/
def withCells (vs : List Int) : Obj → Obj
  | .cells _ t frozen => .cells (vs.map (Value.int .u8)).toArray t frozen
  | o => o
/-- A world that holds the tables. -/
noncomputable def laidWorld (os : Os) : World :=
  { World.holding Tryd.prog os ⟨#[], #[], []⟩ with heap := (((World.holding Tryd.prog os ⟨#[], #[], []⟩).heap.modify 0 (withCells tab32)).modify 1 (withCells tab64)) }
end Go.Proofs.YtifdgjmbecilhaaDoor
