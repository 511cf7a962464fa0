/- What a majority has: the sort that the program calls. -/
import Derived.Test.YtoabpakichjieaaGe
import Derived.Test.YtoabpakichjieaaGxa
import Derived.Test.YtoabpakichjieaaShelf
namespace Go.Proofs.Ytoabpakichjieaa
open Go.RowKit Go.Shelf Go.Lib Go.Sort

def enc64 (x : Nat) : Value := .int .u64 (x : Nat)
theorem ltD (x y : Nat) : ltOf cfD x y = decide (y < x) := by
  unfold ltOf cfD
  by_cases h1 : y < x
  · simp [h1]
  · by_cases h2 : x < y <;> simp [h1, h2]
theorem swoD : SWO (ltOf cfD) where
  irrefl x := by rw [ltD]; simp
  trans x y z h1 h2 := by rw [ltD] at *; simp at *; omega
  ntrans x y z h1 h2 := by rw [ltD] at *; simp at *; omega
theorem totD (x y : Nat) (h1 : ltOf cfD x y = false) (h2 : ltOf cfD y x = false) : x = y := by rw [ltD] at *; simp at *; omega
theorem geD : (fun x y : Nat => !ltOf cfD y x) = fun x y => decide (y ≤ x) := by
  funext x y
  rw [ltD]
  by_cases h : y ≤ x
  · have h' : ¬ x < y := by omega
    simp [h, h']
  · have h' : x < y := by omega
    simp [h, h']
set_option maxHeartbeats 1000000 in
theorem cmpD_any (x y : Nat) (W : World) : Calls Try.prog 40 #[.int .u64 x, .int .u64 y] W fun e w' => e = .returned (.int .i64 (cfD x y)) ∧ ∃ q, w' = W.drewN q := by
  have hc := fun w => compare_any y x w
  generalize cfD x y = r at hc ⊢
  go_enter Try.func40, Try.ntmps40
  go_wp2_with fail
  refine (hc _).mono ?_
  rintro e w2 ⟨rfl, rfl⟩
  go_wp2_with fail
  go_ret
  exact ⟨rfl, 0, rfl⟩
theorem cmpReadsD (blk off size : Nat) (w : World) : CmpReads Try.prog 40 #[] enc64 cfD blk off size w := fun _ _ _ _ x y => cmpD_any x y _
/-- A list of numbers, the greatest first. -/
def descL (L : List Nat) : List Nat := L.mergeSort fun x y => decide (y ≤ x)
theorem descL_len (L : List Nat) : (descL L).length = L.length := by simp [descL]
/-- What the sort answers. -/
def SrP (B g : Nat) (w : World) (S : List Nat) (e : Ending) (w' : World) : Prop := e = .returned (.tuple #[]) ∧ Us w' (some ⟨g, 0, none⟩) S ∧ Below B w w'
set_option maxHeartbeats 1000000 in
theorem sort_any (B g n : Nat) (L : List Nat) (hn : L.length = n) (hl : n ≤ 140737488351232) (w : World) (hB : B ≤ g) (h : w.ownsRow B 22 1 (.slice (some ⟨g, 0, none⟩) n n) n (usCells L)) (hg : g < w.heap.size) :
    Calls Try.prog 39 #[.slice (some ⟨g, 0, none⟩) n n, .func (.func 40) #[] #[]] w (SrP B g w (descL L)) := by
  have eg : ∀ args w, (callFunc 40 args).run Try.prog w = .ok (.enter 40 args) w := enters_of Try.func40 (by kernel_rfl) rfl
  have hH : Holds enc64 w g 0 L.toArray := fun j hj => by
    have hj' : j < L.length := by simpa using hj
    refine ⟨?_, by simpa using h.frozenAt (0 + j)⟩
    have h1 := h.cellAt j (by omega)
    rw [Nat.zero_add, h1, usCells_at L j L[j] (List.getElem?_eq_getElem hj')]
    rw [getElem!_pos L.toArray j (by simpa using hj')]
    simp [enc64]
  have hS := Any.slices_SortFunc_total Try.sortL enc64 (fun _ => rfl) cfD swoD 40 #[] g 0 n L.toArray w eg (cmpReadsD g 0 L.toArray.size w).lays hH hg (by simp; omega) totD
  rw [geD] at hS
  change Calls Try.prog 39 _ _ _ at hS
  rw [show L.toArray.size = n by simpa using hn] at hS
  refine hS.mono ?_
  rintro e w' ⟨rfl, q, os, hw⟩
  have hsw : SW enc64 w g 0 (descL L).toArray w' := ⟨q, os, hw⟩
  have hh := hsw.holds hg hH (by simp [descL_len])
  refine ⟨rfl, fun j x hx => ⟨g, 0, rfl, hsw.lt hg, ?_⟩, ?_⟩
  · have hj := (List.getElem?_eq_some_iff.1 hx).1
    have h1 := (hh j (by simpa using hj)).1
    rw [h1, getElem!_pos (descL L).toArray j (by simpa using hj)]
    obtain ⟨_, h2⟩ := List.getElem?_eq_some_iff.1 hx
    simp [enc64, h2]
  · refine (Below.refl B w).grown (row := some g) ?_ (by omega) (fun k e => by cases e; exact hB)
    rw [hw]
    unfold sortWorld
    refine ⟨rfl, rfl, rfl, by simp, fun k hk hne => ?_⟩
    rw [heap_grow_old _ _ (by simpa using hk)]
    have hgk : g ≠ k := fun e => hne (by rw [e])
    simp [putRow, mapBlock, Sort.ahead, Array.getElem?_modify, hgk]
end Go.Proofs.Ytoabpakichjieaa
