/- TapeSyncs: whatever tape there is, it is synced, and replaced, as the document says. -/
import Derived.Test.YtifldjbpomnfaaaTs
import Derived.Test.YtifldjbpomnfaaaTf
namespace Go.Proofs.Ytifldjbpomnfaaa
open Go.RowKit

set_option maxHeartbeats 1600000 in
theorem law_TapeSyncs (a b : ByteArray) (p : Int) (o : Bool) (s : ByteArray) (hs : a.size + b.size ≤ 1125899906842624) (hs2 : s.size ≤ 1125899906842624) (hP : p ≤ 9223372036854775807) (w : World) : Calls Try.prog 4 #[.agg #[.string a, .string b, .int .i64 p, .bool o], .string s] w fun e w' => e = .returned (.bool true) ∧ Below w.heap.size w w' := by
  go_enter Try.func4, Try.ntmps4
  go_wp2_with fail
  refine (shown_any _).mono ?_
  rintro e w1 ⟨rfl, hb1⟩
  have T1 := (Tb.new w _ rfl _ _ _ _ _).later hb1
  have B1 : Below w.heap.size w w1 := ((Below.refl _ _).alloc (Nat.le_refl _) _).trans (hb1.mono (by simp))
  clear hb1
  obtain ⟨c0, c1, c2, c3, fz, hx⟩ := T1
  have T1 : Tb w1 w.heap.size a b p o := ⟨c0, c1, c2, c3, fz, hx⟩
  go_wp2_with fail
  refine (sync_any _ _ _ _ _ hP hs).mono ?_
  rintro e w2 ⟨rfl, hb2⟩
  have T2 := T1.later hb2
  have B2 := B1.trans (hb2.mono B1.size)
  obtain ⟨r, hr⟩ : ∃ r, r = tSync ⟨a, b, p, o⟩ := ⟨_, rfl⟩
  rw [← hr]
  have HR := Lib.hid hr
  clear hr hb2 c0 c1 c2 c3 fz hx T1 B1
  have T3 := T2.past (.cells #[.string r.1.a, .string r.1.b, .int .i64 r.1.p, .bool r.1.o] 23)
  obtain ⟨c0, c1, c2, c3, fz, hx⟩ := T3
  have T3 := T2.past (.cells #[.string r.1.a, .string r.1.b, .int .i64 r.1.p, .bool r.1.o] 23)
  go_wp2_with fail
  refine (ref_sync_any _ _ _ _ _ hP hs).mono ?_
  rintro e w3 ⟨rfl, hb3⟩
  rw [← HR.out]
  have U3 := (Tb.new w2 _ rfl _ _ _ _ _).later hb3
  have T4 := T3.later hb3
  have B3 := (B2.alloc B2.size _).trans (hb3.mono (by simp; have := B2.size; omega))
  have T5 := T4.past (.cells #[.string r.1.a, .string r.1.b, .int .i64 r.1.p, .bool r.1.o] 23)
  have U5 := U3.past (.cells #[.string r.1.a, .string r.1.b, .int .i64 r.1.p, .bool r.1.o] 23)
  clear hb3 c0 c1 c2 c3 fz hx B2 T2 T3 U3 T4
  obtain ⟨c0, c1, c2, c3, fz, hx⟩ := T5
  have T5 : Tb (w3.alloc (.cells #[.string r.1.a, .string r.1.b, .int .i64 r.1.p, .bool r.1.o] 23)) w.heap.size a b p o := ⟨c0, c1, c2, c3, fz, hx⟩
  go_wp2_with fail
  refine (install_any _ _ _ _ _ _ hP hs2).mono ?_
  rintro e w4 ⟨rfl, hb4⟩
  have V4 := (Tb.new w3 _ rfl _ _ _ _ _).later hb4
  have T6 := T5.later hb4
  have U6 := U5.later hb4
  have B4 := (B3.alloc B3.size _).trans (hb4.mono (by simp; have := B3.size; omega))
  obtain ⟨q, hq⟩ : ∃ q, q = tInstall ⟨a, b, p, o⟩ s := ⟨_, rfl⟩
  rw [← hq]
  have HQ := Lib.hid hq
  clear hq hb4 c0 c1 c2 c3 fz hx T5 U5 B3
  have T7 := T6.past (.cells #[.string q.1.a, .string q.1.b, .int .i64 q.1.p, .bool q.1.o] 23)
  obtain ⟨c0, c1, c2, c3, fz, hx⟩ := T7
  go_wp2_with fail
  refine (ref_install_any _ _ _ _ _ _ hP hs2).mono ?_
  rintro e w5 ⟨rfl, hb5⟩
  rw [← HQ.out]
  have B5 := (B4.alloc B4.size _).trans (hb5.mono (by simp; have := B4.size; omega))
  have X8 := ((Tb.new w4 _ rfl _ _ _ _ _).later hb5).past (.cells #[.string q.1.a, .string q.1.b, .int .i64 q.1.p, .bool q.1.o] 23)
  have U8 := ((U6.past (.cells #[.string q.1.a, .string q.1.b, .int .i64 q.1.p, .bool q.1.o] 23)).later hb5).past (.cells #[.string q.1.a, .string q.1.b, .int .i64 q.1.p, .bool q.1.o] 23)
  have V8 := ((V4.past (.cells #[.string q.1.a, .string q.1.b, .int .i64 q.1.p, .bool q.1.o] 23)).later hb5).past (.cells #[.string q.1.a, .string q.1.b, .int .i64 q.1.p, .bool q.1.o] 23)
  clear hb5 c0 c1 c2 c3 fz hx B4 T6 U6 V4
  obtain ⟨c0, c1, c2, c3, _, _⟩ := X8
  obtain ⟨d0, d1, d2, d3, _, _⟩ := U8
  obtain ⟨e0, e1, e2, e3, _, _⟩ := V8
  go_wp2_with fail
  go_ret
  exact ⟨by simp, (B5.alloc B5.size _)⟩
end Go.Proofs.Ytifldjbpomnfaaa
