/- pack.TakeNum: a number out of bytes, for every bytes. -/
import Derived.Test.YtifdgjmbecilhaaDoorTk
namespace Go.Proofs.YtifdgjmbecilhaaDoor
open Go.RowKit

set_option maxHeartbeats 1000000 in
theorem take_1 (s : ByteArray) (hs : 1 ≤ s.size) (c0 : UInt8) (r : List UInt8) (hl : Hid (s.data.toList = c0 :: r)) (hq : ((c0.toNat : Int) / 64) = 0) (w : World) :
    Calls Tryd.prog 41 #[.string s] w (TkPost s w) := by
  have hn : Hid (tkLen c0 = 1) := tkLen_of (t := 0) (by omega) rfl
  have h1 := (isEmpty_of hl.out).1
  have h2 := (isEmpty_of hl.out).2
  obtain ⟨x0, hx0, a0, b0⟩ : ∃ x : Int, (c0.toNat : Int) = x ∧ 0 ≤ x ∧ x < 256 := ⟨_, rfl, by omega, by have := c0.toNat_lt; omega⟩
  rw [hx0] at hq
  have e0 : ((s[0]'(by omega)).toNat : Int) = x0 := by rw [getAt hl.out 0 c0 rfl (by omega)]; exact hx0
  have HV : Hid ((x0 % 64) = ((tkVal (c0.toNat % 64) [] : Nat) : Int)) := by show _ = _; simp only [tkVal, List.foldl_nil]; omega
  have X0 := Lib.hid hx0; clear hx0

  go_enter Tryd.func41, Tryd.ntmps41
  go_wp2_with fail
  refine wp_loop_rounds 1 ?_
  iterate 1 (any_goals (rw [rounds_succ]; go_wp2_with fail))
  refine (size_any _ _ (by omega)).mono ?_
  rintro e w' ⟨rfl, rfl⟩
  by_cases hz : szOf (x0 % 64) = 1
  · rw [hz]
    have HZ := Lib.hid hz; clear hz
    go_wp2_with fail
    go_quiet (fail)
    go_wp2_with fail
    go_ret3
    exact tkPost_mk nq hl.out (tkNum_ok (bs := []) hn.out rfl (by rw [← HV.out]; exact HZ.out)) HV.out (extract_drop hl.out 1) rfl
  · have hz2 : (szOf (x0 % 64) == 1) = false := by simpa using hz
    have HZ : Hid (szOf ((tkVal (c0.toNat % 64) [] : Nat) : Int) ≠ 1) := by rw [← HV.out]; exact hz
    generalize szOf (x0 % 64) = z at *
    clear hz
    go_wp2_with fail
    go_ret3
    exact tkPost_mk0 hl.out (tkNum_bad (bs := []) hn.out rfl HZ.out) rfl rfl rfl
set_option maxHeartbeats 1000000 in
theorem take_2 (s : ByteArray) (hs : 2 ≤ s.size) (c0 c1 : UInt8) (r : List UInt8) (hl : Hid (s.data.toList = c0 :: c1 :: r)) (hq : ((c0.toNat : Int) / 64) = 1) (w : World) :
    Calls Tryd.prog 41 #[.string s] w (TkPost s w) := by
  have hn : Hid (tkLen c0 = 2) := tkLen_of (t := 1) (by omega) rfl
  have h1 := (isEmpty_of hl.out).1
  have h2 := (isEmpty_of hl.out).2
  obtain ⟨x0, hx0, a0, b0⟩ : ∃ x : Int, (c0.toNat : Int) = x ∧ 0 ≤ x ∧ x < 256 := ⟨_, rfl, by omega, by have := c0.toNat_lt; omega⟩
  obtain ⟨x1, hx1, a1, b1⟩ : ∃ x : Int, (c1.toNat : Int) = x ∧ 0 ≤ x ∧ x < 256 := ⟨_, rfl, by omega, by have := c1.toNat_lt; omega⟩
  rw [hx0] at hq
  have e0 : ((s[0]'(by omega)).toNat : Int) = x0 := by rw [getAt hl.out 0 c0 rfl (by omega)]; exact hx0
  have e1 : ((s[1]'(by omega)).toNat : Int) = x1 := by rw [getAt hl.out 1 c1 rfl (by omega)]; exact hx1
  have HV : Hid (((x0 % 64) * 256 + x1) = ((tkVal (c0.toNat % 64) [c1] : Nat) : Int)) := by show _ = _; simp only [tkVal, List.foldl_cons, List.foldl_nil]; omega
  have X0 := Lib.hid hx0; clear hx0
  have X1 := Lib.hid hx1; clear hx1
  have o1 : Go.bits BinOp.or IntKind.u64 ((x0 % 64) * 256) x1 = ((x0 % 64) * 256 + x1) := or_byte _ _ (by omega) (by omega) a1 b1
  go_enter Tryd.func41, Tryd.ntmps41
  go_wp2_with fail
  refine wp_loop_rounds 2 ?_
  iterate 2 (any_goals (rw [rounds_succ]; go_wp2_with fail))
  refine (size_any _ _ (by omega)).mono ?_
  rintro e w' ⟨rfl, rfl⟩
  by_cases hz : szOf ((x0 % 64) * 256 + x1) = 2
  · rw [hz]
    have HZ := Lib.hid hz; clear hz
    go_wp2_with fail
    go_quiet (fail)
    go_wp2_with fail
    go_ret3
    exact tkPost_mk nq hl.out (tkNum_ok (bs := [c1]) hn.out rfl (by rw [← HV.out]; exact HZ.out)) HV.out (extract_drop hl.out 2) rfl
  · have hz2 : (szOf ((x0 % 64) * 256 + x1) == 2) = false := by simpa using hz
    have HZ : Hid (szOf ((tkVal (c0.toNat % 64) [c1] : Nat) : Int) ≠ 2) := by rw [← HV.out]; exact hz
    generalize szOf ((x0 % 64) * 256 + x1) = z at *
    clear hz
    go_wp2_with fail
    go_ret3
    exact tkPost_mk0 hl.out (tkNum_bad (bs := [c1]) hn.out rfl HZ.out) rfl rfl rfl
set_option maxHeartbeats 1000000 in
theorem take_4 (s : ByteArray) (hs : 4 ≤ s.size) (c0 c1 c2 c3 : UInt8) (r : List UInt8) (hl : Hid (s.data.toList = c0 :: c1 :: c2 :: c3 :: r)) (hq : ((c0.toNat : Int) / 64) = 2) (w : World) :
    Calls Tryd.prog 41 #[.string s] w (TkPost s w) := by
  have hn : Hid (tkLen c0 = 4) := tkLen_of (t := 2) (by omega) rfl
  have h1 := (isEmpty_of hl.out).1
  have h2 := (isEmpty_of hl.out).2
  obtain ⟨x0, hx0, a0, b0⟩ : ∃ x : Int, (c0.toNat : Int) = x ∧ 0 ≤ x ∧ x < 256 := ⟨_, rfl, by omega, by have := c0.toNat_lt; omega⟩
  obtain ⟨x1, hx1, a1, b1⟩ : ∃ x : Int, (c1.toNat : Int) = x ∧ 0 ≤ x ∧ x < 256 := ⟨_, rfl, by omega, by have := c1.toNat_lt; omega⟩
  obtain ⟨x2, hx2, a2, b2⟩ : ∃ x : Int, (c2.toNat : Int) = x ∧ 0 ≤ x ∧ x < 256 := ⟨_, rfl, by omega, by have := c2.toNat_lt; omega⟩
  obtain ⟨x3, hx3, a3, b3⟩ : ∃ x : Int, (c3.toNat : Int) = x ∧ 0 ≤ x ∧ x < 256 := ⟨_, rfl, by omega, by have := c3.toNat_lt; omega⟩
  rw [hx0] at hq
  have e0 : ((s[0]'(by omega)).toNat : Int) = x0 := by rw [getAt hl.out 0 c0 rfl (by omega)]; exact hx0
  have e1 : ((s[1]'(by omega)).toNat : Int) = x1 := by rw [getAt hl.out 1 c1 rfl (by omega)]; exact hx1
  have e2 : ((s[2]'(by omega)).toNat : Int) = x2 := by rw [getAt hl.out 2 c2 rfl (by omega)]; exact hx2
  have e3 : ((s[3]'(by omega)).toNat : Int) = x3 := by rw [getAt hl.out 3 c3 rfl (by omega)]; exact hx3
  have HV : Hid (((((x0 % 64) * 256 + x1) * 256 + x2) * 256 + x3) = ((tkVal (c0.toNat % 64) [c1, c2, c3] : Nat) : Int)) := by show _ = _; simp only [tkVal, List.foldl_cons, List.foldl_nil]; omega
  have X0 := Lib.hid hx0; clear hx0
  have X1 := Lib.hid hx1; clear hx1
  have X2 := Lib.hid hx2; clear hx2
  have X3 := Lib.hid hx3; clear hx3
  have o1 : Go.bits BinOp.or IntKind.u64 ((x0 % 64) * 256) x1 = ((x0 % 64) * 256 + x1) := or_byte _ _ (by omega) (by omega) a1 b1
  have o2 : Go.bits BinOp.or IntKind.u64 (((x0 % 64) * 256 + x1) * 256) x2 = (((x0 % 64) * 256 + x1) * 256 + x2) := or_byte _ _ (by omega) (by omega) a2 b2
  have o3 : Go.bits BinOp.or IntKind.u64 ((((x0 % 64) * 256 + x1) * 256 + x2) * 256) x3 = ((((x0 % 64) * 256 + x1) * 256 + x2) * 256 + x3) := or_byte _ _ (by omega) (by omega) a3 b3
  go_enter Tryd.func41, Tryd.ntmps41
  go_wp2_with fail
  refine wp_loop_rounds 4 ?_
  iterate 4 (any_goals (rw [rounds_succ]; go_wp2_with fail))
  refine (size_any _ _ (by omega)).mono ?_
  rintro e w' ⟨rfl, rfl⟩
  by_cases hz : szOf ((((x0 % 64) * 256 + x1) * 256 + x2) * 256 + x3) = 4
  · rw [hz]
    have HZ := Lib.hid hz; clear hz
    go_wp2_with fail
    go_quiet (fail)
    go_wp2_with fail
    go_ret3
    exact tkPost_mk nq hl.out (tkNum_ok (bs := [c1, c2, c3]) hn.out rfl (by rw [← HV.out]; exact HZ.out)) HV.out (extract_drop hl.out 4) rfl
  · have hz2 : (szOf ((((x0 % 64) * 256 + x1) * 256 + x2) * 256 + x3) == 4) = false := by simpa using hz
    have HZ : Hid (szOf ((tkVal (c0.toNat % 64) [c1, c2, c3] : Nat) : Int) ≠ 4) := by rw [← HV.out]; exact hz
    generalize szOf ((((x0 % 64) * 256 + x1) * 256 + x2) * 256 + x3) = z at *
    clear hz
    go_wp2_with fail
    go_ret3
    exact tkPost_mk0 hl.out (tkNum_bad (bs := [c1, c2, c3]) hn.out rfl HZ.out) rfl rfl rfl
set_option maxHeartbeats 1000000 in
theorem take_8 (s : ByteArray) (hs : 8 ≤ s.size) (c0 c1 c2 c3 c4 c5 c6 c7 : UInt8) (r : List UInt8) (hl : Hid (s.data.toList = c0 :: c1 :: c2 :: c3 :: c4 :: c5 :: c6 :: c7 :: r)) (hq : ((c0.toNat : Int) / 64) = 3) (w : World) :
    Calls Tryd.prog 41 #[.string s] w (TkPost s w) := by
  have hn : Hid (tkLen c0 = 8) := tkLen_of (t := 3) (by omega) rfl
  have h1 := (isEmpty_of hl.out).1
  have h2 := (isEmpty_of hl.out).2
  obtain ⟨x0, hx0, a0, b0⟩ : ∃ x : Int, (c0.toNat : Int) = x ∧ 0 ≤ x ∧ x < 256 := ⟨_, rfl, by omega, by have := c0.toNat_lt; omega⟩
  obtain ⟨x1, hx1, a1, b1⟩ : ∃ x : Int, (c1.toNat : Int) = x ∧ 0 ≤ x ∧ x < 256 := ⟨_, rfl, by omega, by have := c1.toNat_lt; omega⟩
  obtain ⟨x2, hx2, a2, b2⟩ : ∃ x : Int, (c2.toNat : Int) = x ∧ 0 ≤ x ∧ x < 256 := ⟨_, rfl, by omega, by have := c2.toNat_lt; omega⟩
  obtain ⟨x3, hx3, a3, b3⟩ : ∃ x : Int, (c3.toNat : Int) = x ∧ 0 ≤ x ∧ x < 256 := ⟨_, rfl, by omega, by have := c3.toNat_lt; omega⟩
  obtain ⟨x4, hx4, a4, b4⟩ : ∃ x : Int, (c4.toNat : Int) = x ∧ 0 ≤ x ∧ x < 256 := ⟨_, rfl, by omega, by have := c4.toNat_lt; omega⟩
  obtain ⟨x5, hx5, a5, b5⟩ : ∃ x : Int, (c5.toNat : Int) = x ∧ 0 ≤ x ∧ x < 256 := ⟨_, rfl, by omega, by have := c5.toNat_lt; omega⟩
  obtain ⟨x6, hx6, a6, b6⟩ : ∃ x : Int, (c6.toNat : Int) = x ∧ 0 ≤ x ∧ x < 256 := ⟨_, rfl, by omega, by have := c6.toNat_lt; omega⟩
  obtain ⟨x7, hx7, a7, b7⟩ : ∃ x : Int, (c7.toNat : Int) = x ∧ 0 ≤ x ∧ x < 256 := ⟨_, rfl, by omega, by have := c7.toNat_lt; omega⟩
  rw [hx0] at hq
  have e0 : ((s[0]'(by omega)).toNat : Int) = x0 := by rw [getAt hl.out 0 c0 rfl (by omega)]; exact hx0
  have e1 : ((s[1]'(by omega)).toNat : Int) = x1 := by rw [getAt hl.out 1 c1 rfl (by omega)]; exact hx1
  have e2 : ((s[2]'(by omega)).toNat : Int) = x2 := by rw [getAt hl.out 2 c2 rfl (by omega)]; exact hx2
  have e3 : ((s[3]'(by omega)).toNat : Int) = x3 := by rw [getAt hl.out 3 c3 rfl (by omega)]; exact hx3
  have e4 : ((s[4]'(by omega)).toNat : Int) = x4 := by rw [getAt hl.out 4 c4 rfl (by omega)]; exact hx4
  have e5 : ((s[5]'(by omega)).toNat : Int) = x5 := by rw [getAt hl.out 5 c5 rfl (by omega)]; exact hx5
  have e6 : ((s[6]'(by omega)).toNat : Int) = x6 := by rw [getAt hl.out 6 c6 rfl (by omega)]; exact hx6
  have e7 : ((s[7]'(by omega)).toNat : Int) = x7 := by rw [getAt hl.out 7 c7 rfl (by omega)]; exact hx7
  have HV : Hid (((((((((x0 % 64) * 256 + x1) * 256 + x2) * 256 + x3) * 256 + x4) * 256 + x5) * 256 + x6) * 256 + x7) = ((tkVal (c0.toNat % 64) [c1, c2, c3, c4, c5, c6, c7] : Nat) : Int)) := by show _ = _; simp only [tkVal, List.foldl_cons, List.foldl_nil]; omega
  have X0 := Lib.hid hx0; clear hx0
  have X1 := Lib.hid hx1; clear hx1
  have X2 := Lib.hid hx2; clear hx2
  have X3 := Lib.hid hx3; clear hx3
  have X4 := Lib.hid hx4; clear hx4
  have X5 := Lib.hid hx5; clear hx5
  have X6 := Lib.hid hx6; clear hx6
  have X7 := Lib.hid hx7; clear hx7
  have o1 : Go.bits BinOp.or IntKind.u64 ((x0 % 64) * 256) x1 = ((x0 % 64) * 256 + x1) := or_byte _ _ (by omega) (by omega) a1 b1
  have o2 : Go.bits BinOp.or IntKind.u64 (((x0 % 64) * 256 + x1) * 256) x2 = (((x0 % 64) * 256 + x1) * 256 + x2) := or_byte _ _ (by omega) (by omega) a2 b2
  have o3 : Go.bits BinOp.or IntKind.u64 ((((x0 % 64) * 256 + x1) * 256 + x2) * 256) x3 = ((((x0 % 64) * 256 + x1) * 256 + x2) * 256 + x3) := or_byte _ _ (by omega) (by omega) a3 b3
  have o4 : Go.bits BinOp.or IntKind.u64 (((((x0 % 64) * 256 + x1) * 256 + x2) * 256 + x3) * 256) x4 = (((((x0 % 64) * 256 + x1) * 256 + x2) * 256 + x3) * 256 + x4) := or_byte _ _ (by omega) (by omega) a4 b4
  have o5 : Go.bits BinOp.or IntKind.u64 ((((((x0 % 64) * 256 + x1) * 256 + x2) * 256 + x3) * 256 + x4) * 256) x5 = ((((((x0 % 64) * 256 + x1) * 256 + x2) * 256 + x3) * 256 + x4) * 256 + x5) := or_byte _ _ (by omega) (by omega) a5 b5
  have o6 : Go.bits BinOp.or IntKind.u64 (((((((x0 % 64) * 256 + x1) * 256 + x2) * 256 + x3) * 256 + x4) * 256 + x5) * 256) x6 = (((((((x0 % 64) * 256 + x1) * 256 + x2) * 256 + x3) * 256 + x4) * 256 + x5) * 256 + x6) := or_byte _ _ (by omega) (by omega) a6 b6
  have o7 : Go.bits BinOp.or IntKind.u64 ((((((((x0 % 64) * 256 + x1) * 256 + x2) * 256 + x3) * 256 + x4) * 256 + x5) * 256 + x6) * 256) x7 = ((((((((x0 % 64) * 256 + x1) * 256 + x2) * 256 + x3) * 256 + x4) * 256 + x5) * 256 + x6) * 256 + x7) := or_byte _ _ (by omega) (by omega) a7 b7
  go_enter Tryd.func41, Tryd.ntmps41
  go_wp2_with fail
  refine wp_loop_rounds 8 ?_
  iterate 8 (any_goals (rw [rounds_succ]; go_wp2_with fail))
  refine (size_any _ _ (by omega)).mono ?_
  rintro e w' ⟨rfl, rfl⟩
  by_cases hz : szOf ((((((((x0 % 64) * 256 + x1) * 256 + x2) * 256 + x3) * 256 + x4) * 256 + x5) * 256 + x6) * 256 + x7) = 8
  · rw [hz]
    have HZ := Lib.hid hz; clear hz
    go_wp2_with fail
    go_quiet (fail)
    go_wp2_with fail
    go_ret3
    exact tkPost_mk nq hl.out (tkNum_ok (bs := [c1, c2, c3, c4, c5, c6, c7]) hn.out rfl (by rw [← HV.out]; exact HZ.out)) HV.out (extract_drop hl.out 8) rfl
  · have hz2 : (szOf ((((((((x0 % 64) * 256 + x1) * 256 + x2) * 256 + x3) * 256 + x4) * 256 + x5) * 256 + x6) * 256 + x7) == 8) = false := by simpa using hz
    have HZ : Hid (szOf ((tkVal (c0.toNat % 64) [c1, c2, c3, c4, c5, c6, c7] : Nat) : Int) ≠ 8) := by rw [← HV.out]; exact hz
    generalize szOf ((((((((x0 % 64) * 256 + x1) * 256 + x2) * 256 + x3) * 256 + x4) * 256 + x5) * 256 + x6) * 256 + x7) = z at *
    clear hz
    go_wp2_with fail
    go_ret3
    exact tkPost_mk0 hl.out (tkNum_bad (bs := [c1, c2, c3, c4, c5, c6, c7]) hn.out rfl HZ.out) rfl rfl rfl
theorem take_empty (w : World) : Calls Tryd.prog 41 #[.string ⟨#[]⟩] w (TkPost ⟨#[]⟩ w) := by
  go_enter Tryd.func41, Tryd.ntmps41
  go_wp2_with fail
  go_ret3
  exact tkPost_mk0 (l := []) rfl rfl rfl rfl rfl
set_option maxHeartbeats 400000 in
theorem takeShort_2 (s : ByteArray) (hs : s.size < 2) (hs1 : 1 ≤ s.size) (c0 : UInt8) (r : List UInt8) (hl : Hid (s.data.toList = c0 :: r)) (hq : ((c0.toNat : Int) / 64) = 1) (w : World) :
    Calls Tryd.prog 41 #[.string s] w (TkPost s w) := by
  have hn : Hid (tkLen c0 = 2) := tkLen_of (t := 1) (by omega) rfl
  have h1 := (isEmpty_of hl.out).1
  have h2 := (isEmpty_of hl.out).2
  obtain ⟨x0, hx0, a0, b0⟩ : ∃ x : Int, (c0.toNat : Int) = x ∧ 0 ≤ x ∧ x < 256 := ⟨_, rfl, by omega, by have := c0.toNat_lt; omega⟩
  rw [hx0] at hq
  have e0 : ((s[0]'(by omega)).toNat : Int) = x0 := by rw [getAt hl.out 0 c0 rfl (by omega)]; exact hx0
  have HS : Hid (r.length + 1 < 2) := by have := sizeOf_toList hl.out; simp at this; show _ < _; omega
  clear hx0
  go_enter Tryd.func41, Tryd.ntmps41
  go_wp2_with fail
  go_ret3
  exact tkPost_mk0 hl.out (tkNum_short hn.out HS.out) rfl rfl rfl
set_option maxHeartbeats 400000 in
theorem takeShort_4 (s : ByteArray) (hs : s.size < 4) (hs1 : 1 ≤ s.size) (c0 : UInt8) (r : List UInt8) (hl : Hid (s.data.toList = c0 :: r)) (hq : ((c0.toNat : Int) / 64) = 2) (w : World) :
    Calls Tryd.prog 41 #[.string s] w (TkPost s w) := by
  have hn : Hid (tkLen c0 = 4) := tkLen_of (t := 2) (by omega) rfl
  have h1 := (isEmpty_of hl.out).1
  have h2 := (isEmpty_of hl.out).2
  obtain ⟨x0, hx0, a0, b0⟩ : ∃ x : Int, (c0.toNat : Int) = x ∧ 0 ≤ x ∧ x < 256 := ⟨_, rfl, by omega, by have := c0.toNat_lt; omega⟩
  rw [hx0] at hq
  have e0 : ((s[0]'(by omega)).toNat : Int) = x0 := by rw [getAt hl.out 0 c0 rfl (by omega)]; exact hx0
  have HS : Hid (r.length + 1 < 4) := by have := sizeOf_toList hl.out; simp at this; show _ < _; omega
  clear hx0
  go_enter Tryd.func41, Tryd.ntmps41
  go_wp2_with fail
  go_ret3
  exact tkPost_mk0 hl.out (tkNum_short hn.out HS.out) rfl rfl rfl
set_option maxHeartbeats 400000 in
theorem takeShort_8 (s : ByteArray) (hs : s.size < 8) (hs1 : 1 ≤ s.size) (c0 : UInt8) (r : List UInt8) (hl : Hid (s.data.toList = c0 :: r)) (hq : ((c0.toNat : Int) / 64) = 3) (w : World) :
    Calls Tryd.prog 41 #[.string s] w (TkPost s w) := by
  have hn : Hid (tkLen c0 = 8) := tkLen_of (t := 3) (by omega) rfl
  have h1 := (isEmpty_of hl.out).1
  have h2 := (isEmpty_of hl.out).2
  obtain ⟨x0, hx0, a0, b0⟩ : ∃ x : Int, (c0.toNat : Int) = x ∧ 0 ≤ x ∧ x < 256 := ⟨_, rfl, by omega, by have := c0.toNat_lt; omega⟩
  rw [hx0] at hq
  have e0 : ((s[0]'(by omega)).toNat : Int) = x0 := by rw [getAt hl.out 0 c0 rfl (by omega)]; exact hx0
  have HS : Hid (r.length + 1 < 8) := by have := sizeOf_toList hl.out; simp at this; show _ < _; omega
  clear hx0
  go_enter Tryd.func41, Tryd.ntmps41
  go_wp2_with fail
  go_ret3
  exact tkPost_mk0 hl.out (tkNum_short hn.out HS.out) rfl rfl rfl
/-- pack.TakeNum, every bytes. -/
theorem take_any (s : ByteArray) (w : World) : Calls Tryd.prog 41 #[.string s] w (TkPost s w) := by
  obtain ⟨⟨l⟩⟩ := s
  match l with
  | [] => exact take_empty w
  | c0 :: r =>
    have hb := c0.toNat_lt
    by_cases t0 : (c0.toNat : Int) / 64 = 0
    · exact take_1 _ (by rw [size_mk]; simp) c0 r (Lib.hid rfl) t0 w
    by_cases t1 : (c0.toNat : Int) / 64 = 1
    · match r with
      | c1 :: r => exact take_2 _ (by rw [size_mk]; simp) c0 c1 r (Lib.hid rfl) t1 w
      | [] => exact takeShort_2 _ (by rw [size_mk]; simp) (by rw [size_mk]; simp) c0 _ (Lib.hid rfl) t1 w
    by_cases t2 : (c0.toNat : Int) / 64 = 2
    · match r with
      | c1 :: c2 :: c3 :: r => exact take_4 _ (by rw [size_mk]; simp) c0 c1 c2 c3 r (Lib.hid rfl) t2 w
      | [] => exact takeShort_4 _ (by rw [size_mk]; simp) (by rw [size_mk]; simp) c0 _ (Lib.hid rfl) t2 w
      | [c1] => exact takeShort_4 _ (by rw [size_mk]; simp) (by rw [size_mk]; simp) c0 _ (Lib.hid rfl) t2 w
      | [c1, c2] => exact takeShort_4 _ (by rw [size_mk]; simp) (by rw [size_mk]; simp) c0 _ (Lib.hid rfl) t2 w
    · have t3 : (c0.toNat : Int) / 64 = 3 := by omega
      by_cases hl : r.length + 1 < 8
      · exact takeShort_8 _ (by rw [size_mk]; simpa using hl) (by rw [size_mk]; simp) c0 r (Lib.hid rfl) t3 w
      · match r, hl with
        | c1 :: c2 :: c3 :: c4 :: c5 :: c6 :: c7 :: r, _ => exact take_8 _ (by rw [size_mk]; simp) c0 c1 c2 c3 c4 c5 c6 c7 r (Lib.hid rfl) t3 w
        | [], h => exact absurd (by simp) h
        | [_], h => exact absurd (by simp) h
        | [_, _], h => exact absurd (by simp) h
        | [_, _, _], h => exact absurd (by simp) h
        | [_, _, _, _], h => exact absurd (by simp) h
        | [_, _, _, _, _], h => exact absurd (by simp) h
        | [_, _, _, _, _, _], h => exact absurd (by simp) h
end Go.Proofs.YtifdgjmbecilhaaDoor
