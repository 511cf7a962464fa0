/- Layer 3: the document's examples, at the head of all laws. -/
import Derived.Test.YtifldjbpomnfaaaTc
import Derived.Test.YtifldjbpomnfaaaTw
import Derived.Test.YtifldjbpomnfaaaTb
namespace Go.Proofs.Ytifldjbpomnfaaa
open Go.RowKit

theorem ba {a b : ByteArray} (h : a.data.toList = b.data.toList) : a = b := ByteArray.ext (Array.toList_inj.1 h)
theorem ex1 : tWrite ⟨⟨#[]⟩, ⟨#[]⟩, -1, false⟩ ⟨#[97, 98]⟩ = (⟨⟨#[]⟩, ⟨#[97, 98]⟩, -1, false⟩, 0) := by
  have e : (⟨#[]⟩ : ByteArray) ++ ⟨#[97, 98]⟩ = ⟨#[97, 98]⟩ := ba (by simp)
  have e2 : ¬ 262144 < (⟨#[]⟩ : ByteArray).size + (⟨#[]⟩ : ByteArray).size + (⟨#[97, 98]⟩ : ByteArray).size := by decide
  simp [tWrite, Tp.spent, e, e2]
theorem ex2 : tSync ⟨⟨#[]⟩, ⟨#[97, 98]⟩, -1, false⟩ = (⟨⟨#[97, 98]⟩, ⟨#[]⟩, -1, false⟩, 0) := by
  have e : (⟨#[]⟩ : ByteArray) ++ ⟨#[97, 98]⟩ = ⟨#[97, 98]⟩ := ba (by simp)
  simp [tSync, Tp.spent, e, ← emp]
theorem ex3 : tWrite ⟨⟨#[97, 98]⟩, ⟨#[]⟩, -1, false⟩ ⟨#[99, 100]⟩ = (⟨⟨#[97, 98]⟩, ⟨#[99, 100]⟩, -1, false⟩, 0) := by
  have e : (⟨#[]⟩ : ByteArray) ++ ⟨#[99, 100]⟩ = ⟨#[99, 100]⟩ := ba (by simp)
  have e2 : ¬ 262144 < (⟨#[97, 98]⟩ : ByteArray).size + (⟨#[]⟩ : ByteArray).size + (⟨#[99, 100]⟩ : ByteArray).size := by decide
  simp [tWrite, Tp.spent, e, e2]
theorem ex4 : (tCrash ⟨⟨#[97, 98]⟩, ⟨#[99, 100]⟩, -1, false⟩ 1).a = ⟨#[97, 98, 99]⟩ := by
  show (⟨#[97, 98]⟩ : ByteArray) ++ (⟨#[99, 100]⟩ : ByteArray).extract 0 1 = _
  apply ba
  simp [ByteArray.data_append, ByteArray.data_extract]
theorem ex5 : (tPower ⟨⟨#[97, 98, 99]⟩, ByteArray.empty, -1, false⟩ 1).p = 1 := rfl
theorem ex6 : tWrite ⟨⟨#[97, 98, 99]⟩, ByteArray.empty, 1, false⟩ ⟨#[120]⟩ = (⟨⟨#[97, 98, 99]⟩, ⟨#[120]⟩, 0, false⟩, 0) := by
  rw [← emp]
  have e : (⟨#[]⟩ : ByteArray) ++ ⟨#[120]⟩ = ⟨#[120]⟩ := ba (by simp)
  have e2 : ¬ 262144 < (⟨#[97, 98, 99]⟩ : ByteArray).size + (⟨#[]⟩ : ByteArray).size + (⟨#[120]⟩ : ByteArray).size := by decide
  simp [tWrite, Tp.spent, e, e2]
theorem ex7 : tSync ⟨⟨#[97, 98, 99]⟩, ⟨#[120]⟩, 0, false⟩ = (⟨⟨#[97, 98, 99]⟩, ⟨#[120]⟩, 0, true⟩, 6) := rfl
theorem shown_any (w : World) : Calls Try.prog 9 #[] w fun e w' => e = .returned (.bool true) ∧ Below w.heap.size w w' := by
  go_enter Try.func9, Try.ntmps9
  go_wp2_with fail
  refine (write_any _ _ _ _ _ _ (by omega) (by decide)).mono ?_
  rintro e w1 ⟨rfl, hb1⟩
  rw [ex1]
  go_wp2_with fail
  refine (sync_any _ _ _ _ _ (by omega) (by decide)).mono ?_
  rintro e w2 ⟨rfl, hb2⟩
  rw [ex2]
  have T2 := (Tb.new w1 _ rfl _ _ _ _ _).later hb2
  have hxw : w.heap.size ≤ w1.heap.size := hb1.size
  have B2 : Below w.heap.size w w2 := (hb1.alloc hxw _).trans (hb2.mono (by simp; omega))
  clear hb2 hb1
  have T3 := T2.set ⟨#[97, 98]⟩ ⟨#[]⟩ (-1) false
  obtain ⟨c0, c1, c2, c3, fz, hx⟩ := T2
  go_wp2_with fail
  refine (write_any _ _ _ _ _ _ (by omega) (by decide)).mono ?_
  rintro e w3 ⟨rfl, hb3⟩
  rw [ex3]
  have B3 : Below w.heap.size w w3 := (set4_below B2 hxw).trans (hb3.mono (by rw [← set4, set4_size]; exact B2.size))
  have T4 := T3.later hb3
  clear T3 hb3 c0 c1 c2 c3 fz hx B2
  have T5 := T4.set ⟨#[97, 98]⟩ ⟨#[99, 100]⟩ (-1) false
  obtain ⟨c0, c1, c2, c3, fz, hx⟩ := T4
  go_wp2_with fail
  refine (crash_any _ _ _ _ _ _ (by decide)).mono ?_
  rintro e w4 ⟨rfl, hb4⟩
  rw [ex4]
  have B4 : Below w.heap.size w w4 := (set4_below B3 hxw).trans (hb4.mono (by rw [← set4, set4_size]; exact B3.size))
  have T6 := T5.later hb4
  clear T5 hb4 c0 c1 c2 c3 fz hx B3
  have T7 := T6.set ⟨#[97, 98, 99]⟩ ByteArray.empty (-1) false
  obtain ⟨c0, c1, c2, c3, fz, hx⟩ := T6
  go_wp2_with fail
  refine (powered_any _ _ _ _ _ _).mono ?_
  rintro e w5 ⟨rfl, hb5⟩
  rw [ex5]
  have B5 : Below w.heap.size w w5 := (set4_below B4 hxw).trans (hb5.mono (by rw [← set4, set4_size]; exact B4.size))
  have T8 := T7.later hb5
  clear T7 hb5 c0 c1 c2 c3 fz hx B4
  have hxy : w5.heap.size ≠ w1.heap.size := by have := T8.hx; omega
  have hyw : w.heap.size ≤ w5.heap.size := B5.size
  go_wp2_with fail
  refine (write_any _ _ _ _ _ _ (by omega) (by decide)).mono ?_
  rintro e w6 ⟨rfl, hb6⟩
  rw [ex6]
  have T9 := (T8.past _).later hb6
  have U9 := (Tb.new w5 _ rfl _ _ _ _ _).later hb6
  have B6 : Below w.heap.size w w6 := (B5.alloc hyw _).trans (hb6.mono (by simp; omega))
  clear T8 hb6 B5
  have TA := T9.far hxy (.string ⟨#[97, 98, 99]⟩) (.string ⟨#[120]⟩) (.int .i64 0) (.bool false)
  have UA := U9.set ⟨#[97, 98, 99]⟩ ⟨#[120]⟩ 0 false
  clear T9
  obtain ⟨c0, c1, c2, c3, fz, hx⟩ := U9
  go_wp2_with fail
  refine (sync_any _ _ _ _ _ (by omega) (by decide)).mono ?_
  rintro e w7 ⟨rfl, hb7⟩
  rw [ex7]
  have B7 : Below w.heap.size w w7 := (set4_below B6 hyw).trans (hb7.mono (by rw [← set4, set4_size]; exact B6.size))
  have TB := TA.later hb7
  have UB := UA.later hb7
  clear TA UA hb7 c0 c1 c2 c3 fz hx B6
  obtain ⟨c0, c1, c2, c3, fz, hx⟩ := UB
  obtain ⟨d0, d1, d2, d3, fz2, hx2⟩ := TB
  go_wp2_with fail
  go_ret
  exact ⟨rfl, set4_below B7 hyw⟩
end Go.Proofs.Ytifldjbpomnfaaa
