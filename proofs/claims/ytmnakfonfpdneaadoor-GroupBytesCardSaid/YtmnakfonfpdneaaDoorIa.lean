/- The document's example, which stands at the head of all statements. -/
import Derived.Test.YtmnakfonfpdneaaDoorHq
import Derived.Test.YtmnakfonfpdneaaDoorGz
namespace Go.Proofs.YtmnakfonfpdneaaDoor
open Go.RowKit

theorem ag_three : agL [5, 9, 7] = 7 := by
  refine Nat.le_antisymm ?_ ((le_agL _ _).2 (.inr (by decide)))
  refine Classical.byContradiction fun h => ?_
  rcases (le_agL [5, 9, 7] 8).1 (by omega) with h | h
  · cases h
  · exact absurd h (by decide)
theorem nx_three : nxtF [1, 2, 3] [] 3 3 = (([1, 2], []), 0) := by decide
theorem may_three : mayB [1, 2, 3] [] = true := by decide
set_option maxRecDepth 100000 in
set_option maxHeartbeats 4000000 in
theorem shown_any (w : World) : Calls Tryd.prog 5 #[] w fun e w' => e = .returned (.bool true) ∧ Below w.heap.size w w' := by
  obtain ⟨W, hW⟩ : ∃ W, W = ((w.alloc (.cells #[.int .u64 1, .int .u64 2, .int .u64 3] 38)).alloc (.cells #[.slice (some ⟨w.heap.size, 0, none⟩) 3 3, .slice none 0 0] 24)).alloc (.cells #[.int .u64 1, .int .u64 5, .int .u64 2, .int .u64 9, .int .u64 3, .int .u64 7] 41) := ⟨_, rfl⟩
  have hB : Below w.heap.size w W := by rw [hW]; go_grown
  have hV : Us W (some ⟨w.heap.size, 0, none⟩) [1, 2, 3] := fun j x hx => by
    refine ⟨_, 0, rfl, by rw [hW]; simp; omega, ?_⟩
    rw [hW]
    have hj := (List.getElem?_eq_some_iff.1 hx).1
    simp at hj
    have h3 : j = 0 ∨ j = 1 ∨ j = 2 := by omega
    rcases h3 with rfl | rfl | rfl <;> (simp at hx; subst hx; simp [go_sem])
  have hM : Ms W (some ⟨w.heap.size + 1 + 1, 0, none⟩) [⟨1, 5⟩, ⟨2, 9⟩, ⟨3, 7⟩] := fun j x hx => by
    refine ⟨_, 0, rfl, by rw [hW]; simp, ?_⟩
    rw [hW]
    have hj := (List.getElem?_eq_some_iff.1 hx).1
    simp at hj
    have h3 : j = 0 ∨ j = 1 ∨ j = 2 := by omega
    rcases h3 with rfl | rfl | rfl <;> (simp at hx; subst hx; simp [go_sem])
  have hC : Cb W (w.heap.size + 1) (.slice (some ⟨w.heap.size, 0, none⟩) 3 3) (.slice none 0 0) := by
    rw [hW]
    have h := (Cb.new (w := w.alloc (.cells #[.int .u64 1, .int .u64 2, .int .u64 3] 38)) rfl (.slice (some ⟨w.heap.size, 0, none⟩) 3 3) (.slice none 0 0) 24).past (.cells #[.int .u64 1, .int .u64 5, .int .u64 2, .int .u64 9, .int .u64 3, .int .u64 7] 41)
    have es : (w.alloc (.cells #[.int .u64 1, .int .u64 2, .int .u64 3] 38)).heap.size = w.heap.size + 1 := by simp
    rw [es] at h; exact h
  have HW := Lib.hid hW
  have HB := Lib.hid hB
  have HV := Lib.hid hV
  have HM := Lib.hid hM
  have HC := Lib.hid hC
  clear hW hB hV hM hC
  go_enter Tryd.func5, Tryd.ntmps5
  go_wp2_with fail
  rw [← HW.out]
  clear HW
  refine (pAgreed_any 3 3 0 0 3 3 _ none _ [1, 2, 3] [⟨1, 5⟩, ⟨2, 9⟩, ⟨3, 7⟩] rfl (by decide) rfl (by decide) W HV.out HM.out).mono ?_
  rintro e w1 ⟨rfl, hb1⟩
  rw [show agL (mks [1, 2, 3] [⟨1, 5⟩, ⟨2, 9⟩, ⟨3, 7⟩]) = 7 from ag_three]
  have HB1 := Lib.hid (HB.out.trans (hb1.mono HB.out.size))
  have HV1 := Lib.hid (HV.out.later hb1)
  have HC1 := Lib.hid (HC.out.later hb1)
  clear hb1
  obtain ⟨c0, c1, _, _⟩ := HC1.out
  go_wp2_with fail
  refine (pNext_any 3 3 3 0 0 3 _ none [1, 2, 3] [] rfl (by decide) rfl (by decide) w1 HV1.out (Us.nil _ _)).mono ?_
  intro e w2 hnx
  rw [nx_three] at hnx
  obtain ⟨a, c, a2, c2, rfl, hU, _, _, _, hb2⟩ := hnx
  have HB2 := Lib.hid (HB1.out.trans (hb2.mono HB1.out.size))
  have HV2 := Lib.hid (HV1.out.later hb2)
  have HC2 := Lib.hid (HC1.out.later hb2)
  clear hb2 c0 c1 hU
  simp only [List.length_cons, List.length_nil]
  obtain ⟨c0, c1, _, cl⟩ := HC2.out
  go_wp2_with fail
  have D0 := Lib.hid (Cb.new (w := w2) rfl (.slice a 2 c) (.slice a2 0 c2) 24)
  have HV3 := Lib.hid (HV2.out.later ((Below.refl _ _).alloc (Nat.le_refl _) (.cells #[.slice a 2 c, .slice a2 0 c2] 24)))
  have HC3 := Lib.hid (HC2.out.past (.cells #[.slice a 2 c, .slice a2 0 c2] 24))
  have HB3 := Lib.hid (HB2.out.alloc HB2.out.size (.cells #[.slice a 2 c, .slice a2 0 c2] 24))
  refine (pMay_any 3 3 0 0 _ none [1, 2, 3] [] rfl (by decide) rfl (by decide) _ HV3.out (Us.nil _ _)).mono ?_
  rintro e w4 ⟨rfl, hb4⟩
  rw [may_three]
  have HC4 := Lib.hid (HC3.out.later hb4)
  have HD4 := Lib.hid (D0.out.later hb4)
  have HB4 := Lib.hid (HB3.out.trans (hb4.mono HB3.out.size))
  clear hb4 c0 c1 cl
  obtain ⟨c0, c1, _, _⟩ := HC4.out
  go_wp2_with fail
  refine (pNeed_any 3 3 0 0 _ none (by decide) _).mono ?_
  rintro e w5 ⟨rfl, hb5⟩
  have HD5 := Lib.hid (HD4.out.later hb5)
  have HB5 := Lib.hid (HB4.out.trans (hb5.mono HB4.out.size))
  clear hb5 c0 c1
  obtain ⟨d0, d1, _, _⟩ := HD5.out
  go_wp2_with fail
  refine (pNeed_any 2 c 0 c2 a a2 (by decide) _).mono ?_
  rintro e w6 ⟨rfl, hb6⟩
  have HB6 := Lib.hid (HB5.out.trans (hb6.mono HB5.out.size))
  clear hb6 d0 d1
  go_wp2_with fail
  go_ret
  exact ⟨by first | rfl | simp, HB6.out⟩
end Go.Proofs.YtmnakfonfpdneaaDoor
