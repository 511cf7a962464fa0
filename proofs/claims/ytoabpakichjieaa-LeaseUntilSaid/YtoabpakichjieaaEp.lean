/- The document's example, which stands at the head of all statements. -/
import Derived.Test.YtoabpakichjieaaEo
namespace Go.Proofs.Ytoabpakichjieaa
open Go.RowKit

theorem ag_ex : agL (mks [1, 2, 3] (setN 1 20 [⟨2, 15⟩, ⟨3, 12⟩])) = 15 := by
  rw [show mks [1, 2, 3] (setN 1 20 [⟨2, 15⟩, ⟨3, 12⟩]) = [20, 15, 12] by decide]
  refine Nat.le_antisymm ?_ ((le_agL _ _).2 (.inr (by decide)))
  refine Classical.byContradiction fun h => ?_
  rcases (le_agL [20, 15, 12] 16).1 (by omega) with h | h
  · cases h
  · exact absurd h (by decide)
theorem ag_ex2 : agL (mks [1, 2, 3] (setN 1 23 [⟨2, 15⟩, ⟨3, 12⟩])) = 15 := by
  rw [show mks [1, 2, 3] (setN 1 23 [⟨2, 15⟩, ⟨3, 12⟩]) = [23, 15, 12] by decide]
  refine Nat.le_antisymm ?_ ((le_agL _ _).2 (.inr (by decide)))
  refine Classical.byContradiction fun h => ?_
  rcases (le_agL [23, 15, 12] 16).1 (by omega) with h | h
  · cases h
  · exact absurd h (by decide)
set_option maxRecDepth 100000 in
set_option maxHeartbeats 4000000 in
theorem shown_any (w : World) : Calls Try.prog 9 #[] w fun e w' => e = .returned (.bool true) ∧ Below w.heap.size w w' := by
  obtain ⟨W, hW⟩ : ∃ W, W = ((w.alloc (.cells #[.int .u64 1, .int .u64 2, .int .u64 3] 22)).alloc (.cells #[.slice (some ⟨w.heap.size, 0, none⟩) 3 3, .slice none 0 0] 29)).alloc (.cells #[.int .u64 2, .int .u64 15, .int .u64 3, .int .u64 12] 42) := ⟨_, rfl⟩
  have hB : Below w.heap.size w W := by rw [hW]; go_grown
  have hV : Us W (some ⟨w.heap.size, 0, none⟩) [1, 2, 3] := fun j x hx => by
    refine ⟨_, 0, rfl, by rw [hW]; simp; omega, ?_⟩
    rw [hW]
    have hj := (List.getElem?_eq_some_iff.1 hx).1
    simp at hj
    have h3 : j = 0 ∨ j = 1 ∨ j = 2 := by omega
    rcases h3 with rfl | rfl | rfl <;> (simp at hx; subst hx; simp [go_sem])
  have hM : Ms W (some ⟨w.heap.size + 1 + 1, 0, none⟩) [⟨2, 15⟩, ⟨3, 12⟩] := fun j x hx => by
    refine ⟨_, 0, rfl, by rw [hW]; simp, ?_⟩
    rw [hW]
    have hj := (List.getElem?_eq_some_iff.1 hx).1
    simp at hj
    have h3 : j = 0 ∨ j = 1 := by omega
    rcases h3 with rfl | rfl <;> (simp at hx; subst hx; simp [go_sem])
  have hC : Cb W (w.heap.size + 1) (.slice (some ⟨w.heap.size, 0, none⟩) 3 3) (.slice none 0 0) := by
    rw [hW]
    have h := (Cb.new (w := w.alloc (.cells #[.int .u64 1, .int .u64 2, .int .u64 3] 22)) rfl (.slice (some ⟨w.heap.size, 0, none⟩) 3 3) (.slice none 0 0) 29).past (.cells #[.int .u64 2, .int .u64 15, .int .u64 3, .int .u64 12] 42)
    have es : (w.alloc (.cells #[.int .u64 1, .int .u64 2, .int .u64 3] 22)).heap.size = w.heap.size + 1 := by simp
    rw [es] at h; exact h
  have F := Lib.hid (show CfM W 3 3 (some ⟨w.heap.size, 0, none⟩) none [1, 2, 3] 2 2 (some ⟨w.heap.size + 1 + 1, 0, none⟩) [⟨2, 15⟩, ⟨3, 12⟩] from ⟨rfl, by decide, rfl, by decide, hV, hM⟩)
  have hb8 : bnd 10 10 = 8 := by decide
  have U := Lib.hid (fun (w' : World) (h : CfM w' 3 3 (some ⟨w.heap.size, 0, none⟩) none [1, 2, 3] 2 2 (some ⟨w.heap.size + 1 + 1, 0, none⟩) [⟨2, 15⟩, ⟨3, 12⟩]) => pUntil_any 3 3 0 0 2 2 _ none _ [1, 2, 3] [⟨2, 15⟩, ⟨3, 12⟩] 1 20 10 10 8 15 (by decide) (by decide) hb8 ag_ex (by decide) w' h)
  have B := Lib.hid (fun w' : World => pBound_any 10 10 (by decide) (by decide) w')
  have X := Lib.hid (fun (w' : World) (h : CfM w' 3 3 (some ⟨w.heap.size, 0, none⟩) none [1, 2, 3] 2 2 (some ⟨w.heap.size + 1 + 1, 0, none⟩) [⟨2, 15⟩, ⟨3, 12⟩]) => pHolds_any 3 3 0 0 2 2 _ none _ [1, 2, 3] [] [⟨2, 15⟩, ⟨3, 12⟩] 1 20 10 10 8 15 (by decide) (by decide) hb8 ag_ex (by decide) w' h rfl (by decide) (Us.nil _ _))
  have Y := Lib.hid (fun (w' : World) (h : CfM w' 3 3 (some ⟨w.heap.size, 0, none⟩) none [1, 2, 3] 2 2 (some ⟨w.heap.size + 1 + 1, 0, none⟩) [⟨2, 15⟩, ⟨3, 12⟩]) => pHolds_any 3 3 0 0 2 2 _ none _ [1, 2, 3] [] [⟨2, 15⟩, ⟨3, 12⟩] 1 23 10 10 8 15 (by decide) (by decide) hb8 ag_ex2 (by decide) w' h rfl (by decide) (Us.nil _ _))
  rw [show untl 8 15 = 23 by decide] at U X Y
  rw [hb8] at B
  rw [show holdsB [1, 2, 3] [] 1 20 23 = true by decide] at X
  rw [show holdsB [1, 2, 3] [] 1 23 23 = false by decide] at Y
  have HW := Lib.hid hW
  have HB := Lib.hid hB
  have HC := Lib.hid hC
  clear hW hB hV hM hC hb8
  go_enter Try.func9, Try.ntmps9
  go_upto_region 3 with (fail)
  rw [← HW.out]
  clear HW
  obtain ⟨c0, c1, _, _⟩ := HC.out
  go_wp2_with fail
  refine (U.out _ F.out).mono ?_
  rintro e w1 ⟨rfl, hb1⟩
  have HB1 := Lib.hid (HB.out.trans (hb1.mono HB.out.size))
  have HF1 := Lib.hid (F.out.later hb1)
  have HC1 := Lib.hid (HC.out.later hb1)
  clear hb1 c0 c1 F HC
  obtain ⟨c0, c1, _, _⟩ := HC1.out
  go_wp2_with fail
  refine (B.out _).mono ?_
  rintro e w2 ⟨rfl, hb2⟩
  have HB2 := Lib.hid (HB1.out.trans (hb2.mono HB1.out.size))
  have HF2 := Lib.hid (HF1.out.later hb2)
  have HC2 := Lib.hid (HC1.out.later hb2)
  clear hb2 c0 c1 HF1 HC1
  obtain ⟨c0, c1, _, _⟩ := HC2.out
  go_wp2_with fail
  refine (X.out _ HF2.out).mono ?_
  rintro e w3 ⟨rfl, hb3⟩
  have HB3 := Lib.hid (HB2.out.trans (hb3.mono HB2.out.size))
  have HF3 := Lib.hid (HF2.out.later hb3)
  have HC3 := Lib.hid (HC2.out.later hb3)
  clear hb3 c0 c1 HF2 HC2
  obtain ⟨c0, c1, _, _⟩ := HC3.out
  go_wp2_with fail
  refine (Y.out _ HF3.out).mono ?_
  rintro e w4 ⟨rfl, hb4⟩
  have HB4 := Lib.hid (HB3.out.trans (hb4.mono HB3.out.size))
  clear hb4 c0 c1
  go_wp2_with fail
  go_ret
  exact ⟨by first | rfl | simp, HB4.out⟩
end Go.Proofs.Ytoabpakichjieaa
