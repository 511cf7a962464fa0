/- The program's Within. -/
import Derived.Test.YtoabpakichjieaaEd
namespace Go.Proofs.Ytoabpakichjieaa
open Go.RowKit

set_option maxHeartbeats 2000000 in
theorem pWithin_any (r l d : Nat) (hr : r < 18446744073709551616) (hl : l < 18446744073709551616) (hd : d < 18446744073709551616) (w : World) :
    Calls Try.prog 12 #[.int .u64 r, .int .u64 l, .int .u64 d] w fun e w' => e = .returned (.bool (wit r l d)) ∧ Below w.heap.size w w' := by
  by_cases h2 : d < 2
  · have g : (d : Int) < 2 := by omega
    have e1 : wit r l d = false := by unfold wit; rw [decide_eq_false (by omega)]; rfl
    rw [e1]
    go_enter Try.func12, Try.ntmps12
    go_wp2_with fail
    go_ret
    exact ⟨rfl, Below.refl _ _⟩
  have g : ¬ (d : Int) < 2 := by omega
  obtain ⟨d1, hd1⟩ : ∃ x, d - 1 = x := ⟨_, rfl⟩
  have g1 : (d : Int) - 1 = (d1 : Int) := by omega
  have hwit : wit r l d = (decide (r * d1 ≤ l * d) && decide (l * d ≤ r * d + r)) := by
    unfold wit; rw [decide_eq_true (by omega : 2 ≤ d), hd1, Nat.mul_add, Nat.mul_one]; rfl
  rw [hwit]
  have hsq : r * d ≤ 18446744073709551615 * 18446744073709551615 := Nat.mul_le_mul (by omega) (by omega)
  obtain ⟨lh, hlh⟩ : ∃ x, r * d1 / 18446744073709551616 = x := ⟨_, rfl⟩
  obtain ⟨ll, hll⟩ : ∃ x, r * d1 % 18446744073709551616 = x := ⟨_, rfl⟩
  obtain ⟨mh, hmh⟩ : ∃ x, r * d / 18446744073709551616 = x := ⟨_, rfl⟩
  obtain ⟨ml, hml⟩ : ∃ x, r * d % 18446744073709551616 = x := ⟨_, rfl⟩
  obtain ⟨nh, hnh⟩ : ∃ x, mh + (ml + r) / 18446744073709551616 = x := ⟨_, rfl⟩
  obtain ⟨nl, hnl⟩ : ∃ x, (ml + r) % 18446744073709551616 = x := ⟨_, rfl⟩
  obtain ⟨ah, hah⟩ : ∃ x, l * d / 18446744073709551616 = x := ⟨_, rfl⟩
  obtain ⟨al, hal⟩ : ∃ x, l * d % 18446744073709551616 = x := ⟨_, rfl⟩
  have b1 : ll < 18446744073709551616 := by omega
  have b2 : nl < 18446744073709551616 := by omega
  have b3 : al < 18446744073709551616 := by omega
  have b4 : nh < 18446744073709551616 := by omega
  obtain ⟨c1, hc1⟩ : ∃ c, decide (ah * 18446744073709551616 + al < lh * 18446744073709551616 + ll) = c := ⟨_, rfl⟩
  obtain ⟨c2, hc2⟩ : ∃ c, decide (nh * 18446744073709551616 + nl < ah * 18446744073709551616 + al) = c := ⟨_, rfl⟩
  have hres : (decide (r * d1 ≤ l * d) && decide (l * d ≤ r * d + r)) = (!c1 && !c2) := by
    have e1 : decide (r * d1 ≤ l * d) = !c1 := by
      rw [← hc1, ← decide_not, decide_eq_decide]
      have := Nat.div_add_mod (r * d1) 18446744073709551616
      have := Nat.div_add_mod (l * d) 18446744073709551616
      omega
    have e2 : decide (l * d ≤ r * d + r) = !c2 := by
      rw [← hc2, ← decide_not, decide_eq_decide]
      have := Nat.div_add_mod (r * d) 18446744073709551616
      have := Nat.div_add_mod (l * d) 18446744073709551616
      have := Nat.div_add_mod (ml + r) 18446744073709551616
      omega
    rw [e1, e2]
  rw [hres]
  have hd1b : d1 < 18446744073709551616 := by omega
  have T1 := Lib.hid (fun w => times_any r d1 lh ll hr hd1b hlh hll w)
  have T2 := Lib.hid (fun w => times_any r d mh ml hr hd hmh hml w)
  have T3 := Lib.hid (fun w => plus_any mh ml r nh nl hr hnh hnl b4 w)
  have T4 := Lib.hid (fun w => times_any l d ah al hl hd hah hal w)
  have K1 := Lib.hid (fun w => below_any ah al lh ll c1 b3 b1 hc1 w)
  have K2 := Lib.hid (fun w => below_any nh nl ah al c2 b2 b3 hc2 w)
  clear hres hwit hlh hll hmh hml hnh hnl hah hal hc1 hc2 hsq b1 b2 b3 b4 hd1
  go_enter Try.func12, Try.ntmps12
  go_wp2_with fail
  refine (T1.out _).mono ?_
  rintro e w1 ⟨rfl, hb1⟩
  have HB1 := Lib.hid hb1
  clear hb1
  go_wp2_with fail
  refine (T2.out _).mono ?_
  rintro e w2 ⟨rfl, hb2⟩
  have HB2 := Lib.hid (HB1.out.trans (hb2.mono HB1.out.size))
  clear hb2
  go_wp2_with fail
  refine (T3.out _).mono ?_
  rintro e w3 ⟨rfl, hb3⟩
  have HB3 := Lib.hid (HB2.out.trans (hb3.mono HB2.out.size))
  clear hb3
  go_wp2_with fail
  have C7 := (Cb.new (w := w3) rfl (.int .u64 lh) (.int .u64 ll) 45).past (.cells #[.int .u64 nh, .int .u64 nl] 45)
  have C8 := Cb.new (w := w3.alloc (.cells #[.int .u64 lh, .int .u64 ll] 45)) (x := w3.heap.size + 1) (by simp) (.int .u64 nh) (.int .u64 nl) 45
  have HB5 := Lib.hid ((HB3.out.alloc HB3.out.size (.cells #[.int .u64 lh, .int .u64 ll] 45)).alloc (by have := HB3.out.size; simp; omega) (.cells #[.int .u64 nh, .int .u64 nl] 45))
  generalize (w3.alloc (.cells #[.int .u64 lh, .int .u64 ll] 45)).alloc (.cells #[.int .u64 nh, .int .u64 nl] 45) = W at *
  refine (T4.out _).mono ?_
  rintro e w4 ⟨rfl, hb4⟩
  have D7 := (C7.later hb4).past (.cells #[.int .u64 ah, .int .u64 al] 45)
  have D8 := (C8.later hb4).past (.cells #[.int .u64 ah, .int .u64 al] 45)
  have HB6 := Lib.hid ((HB5.out.trans (hb4.mono HB5.out.size)).alloc (Nat.le_trans HB5.out.size hb4.size) (.cells #[.int .u64 ah, .int .u64 al] 45))
  have D9 := Cb.new (w := w4) rfl (.int .u64 ah) (.int .u64 al) 45
  clear C7 C8 hb4 HB5
  go_upto_region 5 with (fail)
  generalize w4.alloc (.cells #[.int .u64 ah, .int .u64 al] 45) = V at *
  obtain ⟨x0, x1, _, _⟩ := D7
  obtain ⟨z0, z1, _, _⟩ := D9
  go_wp2_with fail
  refine (K1.out _).mono ?_
  rintro e w5 ⟨rfl, hb5⟩
  have HB7 := Lib.hid (HB6.out.trans (hb5.mono HB6.out.size))
  have F8 := D8.later hb5
  have F9 := (Cb.mk z0 z1 ‹_› ‹_›).later hb5
  clear hb5 x0 x1 z0 z1
  obtain ⟨y0, y1, _, _⟩ := F8
  obtain ⟨z0, z1, _, _⟩ := F9
  cases c1
  · go_wp2_with fail
    refine (K2.out _).mono ?_
    rintro e w6 ⟨rfl, hb6⟩
    have HB8 := Lib.hid (HB7.out.trans (hb6.mono HB7.out.size))
    clear hb6 y0 y1 z0 z1
    go_wp2_with fail
    go_ret
    exact ⟨by first | rfl | simp, HB8.out⟩
  · go_wp2_with fail
    go_ret
    exact ⟨by first | rfl | simp, HB7.out⟩
end Go.Proofs.Ytoabpakichjieaa
