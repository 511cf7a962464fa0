/- TapeWrites: whatever tape there is, what is written stands behind it, or is refused, as the document says. -/
import Derived.Test.YtifldjbpomnfaaaTs
import Derived.Test.YtifldjbpomnfaaaTf
namespace Go.Proofs.Ytifldjbpomnfaaa
open Go.RowKit

set_option maxHeartbeats 800000 in
theorem law_TapeWrites (a b : ByteArray) (p : Int) (o : Bool) (s : ByteArray) (hs : a.size + b.size + s.size ≤ 1125899906842624) (hP : p ≤ 9223372036854775807) (w : World) : Calls Try.prog 3 #[.agg #[.string a, .string b, .int .i64 p, .bool o], .string s] w fun e w' => e = .returned (.bool true) ∧ Below w.heap.size w w' := by
  go_enter Try.func3, Try.ntmps3
  go_wp2_with fail
  refine (shown_any _).mono ?_
  rintro e w1 ⟨rfl, hb1⟩
  have T1 := (Tb.new w _ rfl _ _ _ _ _).later hb1
  have B1 : Below w.heap.size w w1 := ((Below.refl _ _).alloc (Nat.le_refl _) _).trans (hb1.mono (by simp))
  clear hb1
  obtain ⟨c0, c1, c2, c3, fz, hx⟩ := T1
  have T1 : Tb w1 w.heap.size a b p o := ⟨c0, c1, c2, c3, fz, hx⟩
  go_wp2_with fail
  refine (write_any _ _ _ _ _ _ hP hs).mono ?_
  rintro e w2 ⟨rfl, hb2⟩
  have T2 := T1.later hb2
  have B2 := B1.trans (hb2.mono B1.size)
  obtain ⟨r, hr⟩ : ∃ r, r = tWrite ⟨a, b, p, o⟩ s := ⟨_, rfl⟩
  rw [← hr]
  have HR := Lib.hid hr
  clear hr hb2 c0 c1 c2 c3 fz hx T1 B1
  have T3 := T2.past (.cells #[.string r.1.a, .string r.1.b, .int .i64 r.1.p, .bool r.1.o] 23)
  obtain ⟨c0, c1, c2, c3, fz, hx⟩ := T3
  go_wp2_with fail
  refine (ref_write_any _ _ _ _ _ _ hP hs).mono ?_
  rintro e w3 ⟨rfl, hb3⟩
  rw [← HR.out]
  have U3 := (Tb.new w2 _ rfl _ _ _ _ _).later hb3
  have B3 := (B2.alloc B2.size _).trans (hb3.mono (by simp; have := B2.size; omega))
  have U4 := U3.past (.cells #[.string r.1.a, .string r.1.b, .int .i64 r.1.p, .bool r.1.o] 23)
  clear hb3 c0 c1 c2 c3 fz hx B2 T2 U3
  obtain ⟨c0, c1, c2, c3, fz, hx⟩ := U4
  go_wp2_with fail
  trace_state
  go_ret
  exact ⟨by simp, (B3.alloc B3.size _)⟩
end Go.Proofs.Ytifldjbpomnfaaa
