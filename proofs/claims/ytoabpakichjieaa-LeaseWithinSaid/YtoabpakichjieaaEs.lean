/- LeaseBounds, LeaseWithin, LeaseSafe, LeaseLess. -/
import Derived.Test.YtoabpakichjieaaEp
import Derived.Test.YtoabpakichjieaaEe
namespace Go.Proofs.Ytoabpakichjieaa
open Go.RowKit

set_option maxHeartbeats 1000000 in
theorem law_LeaseBounds (s d : Nat) (hs : s < 18446744073709551616) (hd : d < 18446744073709551616) (w : World) :
    Calls Try.prog 3 #[.int .u64 s, .int .u64 d] w fun e w' => e = .returned (.bool true) ∧ Below w.heap.size w w' := by
  have P := Lib.hid (fun w => pBound_any s d hs hd w)
  have R := Lib.hid (fun w => rBound_any s d hs hd w)
  obtain ⟨b, hb⟩ : ∃ b, bnd s d = b := ⟨_, rfl⟩
  rw [hb] at P R
  clear hb
  go_enter Try.func3, Try.ntmps3
  go_wp2_with fail
  refine (shown_any _).mono ?_
  rintro e w1 ⟨rfl, hb1⟩
  have HB1 := Lib.hid hb1
  clear hb1
  go_wp2_with fail
  refine (P.out _).mono ?_
  rintro e w2 ⟨rfl, hb2⟩
  have HB2 := Lib.hid (HB1.out.trans (hb2.mono HB1.out.size))
  clear hb2
  go_wp2_with fail
  refine (R.out _).mono ?_
  rintro e w3 ⟨rfl, hb3⟩
  have HB3 := Lib.hid (HB2.out.trans (hb3.mono HB2.out.size))
  clear hb3
  go_wp2_with fail
  go_ret
  exact ⟨by first | rfl | simp, HB3.out⟩
set_option maxHeartbeats 1000000 in
theorem law_LeaseWithin (r l d : Nat) (hr : r < 18446744073709551616) (hl : l < 18446744073709551616) (hd : d < 18446744073709551616) (w : World) :
    Calls Try.prog 4 #[.int .u64 r, .int .u64 l, .int .u64 d] w fun e w' => e = .returned (.bool true) ∧ Below w.heap.size w w' := by
  have P := Lib.hid (fun w => pWithin_any r l d hr hl hd w)
  have R := Lib.hid (fun w => rWithin_any r l d hr hl hd w)
  obtain ⟨b, hb⟩ : ∃ b, wit r l d = b := ⟨_, rfl⟩
  rw [hb] at P R
  clear hb
  go_enter Try.func4, Try.ntmps4
  go_wp2_with fail
  refine (shown_any _).mono ?_
  rintro e w1 ⟨rfl, hb1⟩
  have HB1 := Lib.hid hb1
  clear hb1
  go_wp2_with fail
  refine (P.out _).mono ?_
  rintro e w2 ⟨rfl, hb2⟩
  have HB2 := Lib.hid (HB1.out.trans (hb2.mono HB1.out.size))
  clear hb2
  go_wp2_with fail
  refine (R.out _).mono ?_
  rintro e w3 ⟨rfl, hb3⟩
  have HB3 := Lib.hid (HB2.out.trans (hb3.mono HB2.out.size))
  clear hb3
  go_wp2_with fail
  go_ret
  exact ⟨by first | rfl | simp, HB3.out⟩
set_option maxHeartbeats 2000000 in
theorem law_LeaseSafe (r o x s d : Nat) (hr : r < 18446744073709551616) (ho : o < 18446744073709551616) (hx : x < 18446744073709551616) (hs : s < 18446744073709551616) (hd : d < 18446744073709551616) (w : World) :
    Calls Try.prog 6 #[.agg #[.int .u64 r, .int .u64 o, .int .u64 x, .int .u64 s, .int .u64 d]] w fun e w' => e = .returned (.bool true) ∧ Below w.heap.size w w' := by
  have W1 := Lib.hid (fun w => pWithin_any r o d hr ho hd w)
  have W2 := Lib.hid (fun w => pWithin_any r x d hr hx hd w)
  have P := Lib.hid (fun w => pBound_any s d hs hd w)
  have HS := Lib.hid (fun h1 h2 h3 => wit_safe (r := r) (o := o) (x := x) (s := s) (d := d) h1 h2 h3)
  have HB0 := Lib.hid (show Below w.heap.size w (w.alloc (.cells #[.int .u64 r, .int .u64 o, .int .u64 x, .int .u64 s, .int .u64 d] 37)) by go_grown)
  obtain ⟨b, hb⟩ : ∃ b, bnd s d = b := ⟨_, rfl⟩
  obtain ⟨c1, hc1⟩ : ∃ b, wit r o d = b := ⟨_, rfl⟩
  obtain ⟨c2, hc2⟩ : ∃ b, wit r x d = b := ⟨_, rfl⟩
  rw [hb] at P HS
  rw [hc1] at W1 HS
  rw [hc2] at W2 HS
  clear hb hc1 hc2
  go_enter Try.func6, Try.ntmps6
  go_wp2_with fail
  refine (shown_any _).mono ?_
  rintro e w1 ⟨rfl, hb1⟩
  have HB1 := Lib.hid (HB0.out.trans (hb1.mono HB0.out.size))
  clear hb1
  go_wp2_with fail
  refine (W1.out _).mono ?_
  rintro e w2 ⟨rfl, hb2⟩
  have HB2 := Lib.hid (HB1.out.trans (hb2.mono HB1.out.size))
  clear hb2
  go_wp2_with fail
  refine (W2.out _).mono ?_
  rintro e w3 ⟨rfl, hb3⟩
  have HB3 := Lib.hid (HB2.out.trans (hb3.mono HB2.out.size))
  clear hb3
  cases c1
  · go_wp2_with fail
    go_ret
    exact ⟨by first | rfl | simp, HB3.out⟩
  cases c2
  · go_wp2_with fail
    go_ret
    exact ⟨by first | rfl | simp, HB3.out⟩
  go_wp2_with fail
  refine (P.out _).mono ?_
  rintro e w4 ⟨rfl, hb4⟩
  have HB4 := Lib.hid (HB3.out.trans (hb4.mono HB3.out.size))
  clear hb4
  by_cases hlt : o < b
  · have g1 : ¬ (b : Int) ≤ (o : Int) := by omega
    have hxs := (by first | exact HS.out rfl rfl hlt | exact HS.out trivial trivial hlt : x < s)
    have g2 : (x : Int) < (s : Int) := by omega
    go_wp2_with fail
    go_ret
    exact ⟨by first | rfl | simp, HB4.out⟩
  · have g1 : (b : Int) ≤ (o : Int) := by omega
    go_wp2_with fail
    go_ret
    exact ⟨by first | rfl | simp, HB4.out⟩
end Go.Proofs.Ytoabpakichjieaa
