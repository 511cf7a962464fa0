/- TapeReads: whatever tape there is, its bytes are told, or that it is off. -/
import Derived.Test.YtifldjbpomnfaaaTs
namespace Go.Proofs.Ytifldjbpomnfaaa
open Go.RowKit

set_option maxHeartbeats 800000 in
theorem law_TapeReads (a b : ByteArray) (p : Int) (o : Bool) (hs : a.size + b.size ≤ 1125899906842624) (w : World) : Calls Try.prog 5 #[.agg #[.string a, .string b, .int .i64 p, .bool o]] w fun e w' => e = .returned (.bool true) ∧ Below w.heap.size w w' := by
  cases o <;>
  · go_enter Try.func5, Try.ntmps5
    go_wp2_with fail
    refine (shown_any _).mono ?_
    rintro e w1 ⟨rfl, hb1⟩
    have T1 := (Tb.new w _ rfl _ _ _ _ _).later hb1
    have B1 : Below w.heap.size w w1 := ((Below.refl _ _).alloc (Nat.le_refl _) _).trans (hb1.mono (by simp))
    clear hb1
    obtain ⟨c0, c1, c2, c3, fz, hx⟩ := T1
    have T1 : Tb w1 w.heap.size a b p _ := ⟨c0, c1, c2, c3, fz, hx⟩
    go_wp2_with fail
    refine (read_any _ _ _ _ _ hs).mono ?_
    rintro e w2 ⟨rfl, hb2⟩
    have T2 := T1.later hb2
    have B2 := B1.trans (hb2.mono B1.size)
    simp only [tRead, if_true, if_false, Bool.false_eq_true]
    clear hb2 c0 c1 c2 c3 fz hx T1 B1
    obtain ⟨c0, c1, c2, c3, fz, hx⟩ := T2
    go_wp2_with fail
    go_ret
    exact ⟨by simp, B2⟩
end Go.Proofs.Ytifldjbpomnfaaa
