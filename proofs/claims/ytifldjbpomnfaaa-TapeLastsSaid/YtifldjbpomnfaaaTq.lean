/- Layer 3: the act's closure, with each operation; Write, Sync, Install. -/
import Derived.Test.YtifldjbpomnfaaaTp
namespace Go.Proofs.Ytifldjbpomnfaaa
open Go.RowKit

theorem install1_any (a b s : ByteArray) (p : Int) (o : Bool) (x : Addr) (w : World) (hx : w.cell? x = some (.string s)) (hb : x.block < w.heap.size) : Calls Try.prog 27 #[.agg #[.string a, .string b, .int .i64 p, .bool o], .pointer (some x)] w fun e w' =>
    e = .returned (.agg #[.string s, .string ByteArray.empty, .int .i64 p, .bool o]) ∧ Below w.heap.size w w' := by
  go_enter Try.func27, Try.ntmps27
  go_wp2_with fail
  refine (settled_any a b s p o _).mono ?_
  rintro e w1 ⟨rfl, hb1⟩
  obtain ⟨hc1, hf1⟩ := bcell hb1
  have hz1 : w.heap.size + 1 < w1.heap.size := by have := hb1.size; simp at this; omega
  go_wp2_with fail
  refine bodyPost_ret (v := .agg #[.string s, .string ByteArray.empty, .int .i64 p, .bool o]) (by simp [results, Try.results27, go_sem, hc1]) rfl ⟨rfl, ?_⟩
  exact (((((((Below.refl _ w).alloc (Nat.le_refl _) _).alloc (by simp) _).trans (hb1.mono (by simp; omega))).setCell (by simp) _).setCell (by simp) _ |>.setCell (by simp) _).setCell (by simp) _)

/-- The tape in one box, the room in another. -/
structure Bx (w : World) (x y : Nat) (a b : ByteArray) (p n : Int) (o : Bool) : Prop where
  h0 : w.cell? ⟨x, 0, none⟩ = some (.string a)
  h1 : w.cell? ⟨x, 1, none⟩ = some (.string b)
  h2 : w.cell? ⟨x, 2, none⟩ = some (.int .i64 p)
  h3 : w.cell? ⟨x, 3, none⟩ = some (.bool o)
  h4 : w.cell? ⟨y, 0, none⟩ = some (.int .i64 n)
  hx : x < w.heap.size
  hy : y < w.heap.size
theorem act1_off (f : Value) (a b : ByteArray) (p n : Int) (x y : Nat) (w : World) (H : Bx w x y a b p n true) :
    Calls Try.prog 28 #[f, .pointer (some ⟨x, 0, none⟩), .pointer (some ⟨y, 0, none⟩)] w fun e w' => e = .returned (.tuple #[.agg #[.string a, .string b, .int .i64 p, .bool true], .int .i64 6]) ∧ Below w.heap.size w w' := by
  obtain ⟨h0, h1, h2, h3, h4, hx, hy⟩ := H
  go_enter Try.func28, Try.ntmps28
  go_wp2_with fail
  refine bodyPost_ret (v := .tuple #[.agg #[.string a, .string b, .int .i64 p, .bool true], .int .i64 6]) (by simp [results, Try.results28, go_sem]) rfl ⟨rfl, ?_⟩
  go_grown
theorem act1_full (f : Value) (a b : ByteArray) (p n : Int) (x y : Nat) (w : World) (H : Bx w x y a b p n false) (hn : 262144 < n) :
    Calls Try.prog 28 #[f, .pointer (some ⟨x, 0, none⟩), .pointer (some ⟨y, 0, none⟩)] w fun e w' => e = .returned (.tuple #[.agg #[.string a, .string b, .int .i64 p, .bool false], .int .i64 5]) ∧ Below w.heap.size w w' := by
  obtain ⟨h0, h1, h2, h3, h4, hx, hy⟩ := H
  go_enter Try.func28, Try.ntmps28
  go_wp2_with fail
  refine bodyPost_ret (v := .tuple #[.agg #[.string a, .string b, .int .i64 p, .bool false], .int .i64 5]) (by simp [results, Try.results28, go_sem]) rfl ⟨rfl, ?_⟩
  go_grown
theorem act1_dead (f : Value) (a b : ByteArray) (p n : Int) (x y : Nat) (w : World) (H : Bx w x y a b p n false) (hn : ¬ 262144 < n) (hp : p = 0) :
    Calls Try.prog 28 #[f, .pointer (some ⟨x, 0, none⟩), .pointer (some ⟨y, 0, none⟩)] w fun e w' => e = .returned (.tuple #[.agg #[.string a, .string b, .int .i64 0, .bool true], .int .i64 6]) ∧ Below w.heap.size w w' := by
  subst hp
  obtain ⟨h0, h1, h2, h3, h4, hx, hy⟩ := H
  go_enter Try.func28, Try.ntmps28
  go_wp2_with fail
  refine bodyPost_ret (v := .tuple #[.agg #[.string a, .string b, .int .i64 0, .bool true], .int .i64 6]) (by simp [results, Try.results28, go_sem]) rfl ⟨rfl, ?_⟩
  go_grown
/-- What power is left. -/
def left (p : Int) : Int := if 0 < p then p - 1 else p
theorem act1_write (z : Addr) (a b : ByteArray) (s : ByteArray) (p n : Int) (x y : Nat) (w : World) (H : Bx w x y a b p n false) (hn : ¬ 262144 < n) (hp : ¬ p = 0) (hP : p ≤ 9223372036854775807) (hz : w.cell? z = some (.string s)) (hb : z.block < w.heap.size) (hs : b.size + s.size ≤ 1125899906842624) :
    Calls Try.prog 28 #[.func (.func 22) #[] #[.pointer (some z)], .pointer (some ⟨x, 0, none⟩), .pointer (some ⟨y, 0, none⟩)] w fun e w' => e = .returned (.tuple #[.agg #[.string a, .string (b ++ s), .int .i64 (left p), .bool false], .int .i64 0]) ∧ Below w.heap.size w w' := by
  obtain ⟨h0, h1, h2, h3, h4, hx, hy⟩ := H
  have hp2 : (p == 0) = false := by simpa using hp
  by_cases hq : 0 < p
  · have hl : left p = p - 1 := if_pos hq
    rw [hl]; clear hl
    go_enter Try.func28, Try.ntmps28
    go_wp2_with fail
    have hB : Below w.heap.size w ((w.alloc (.cells #[.string ⟨#[]⟩, .string ⟨#[]⟩, .int .i64 0, .bool false] 23)).alloc (.cells #[.string a, .string b, .int .i64 (p - 1), .bool false] 23)) := ((Below.refl _ w).alloc (Nat.le_refl _) _).alloc (by simp) _
    refine (write1_any a b s (p - 1) false z _ ((hB.cell hb).trans hz) (Nat.lt_of_lt_of_le hb hB.size) hs).mono ?_
    rintro e w1 ⟨rfl, hb1⟩
    obtain ⟨hc1, hf1⟩ := bcell hb1
    have hz1 : w.heap.size + 1 < w1.heap.size := by have := hb1.size; simp at this; omega
    have hz0 : w.heap.size < w1.heap.size := by omega
    have q0 : w1.cell? ⟨w.heap.size, 0, none⟩ = some (.string ⟨#[]⟩) := fresh2 rfl hc1 0
    have q1 : w1.cell? ⟨w.heap.size, 1, none⟩ = some (.string ⟨#[]⟩) := fresh2 rfl hc1 1
    have q2 : w1.cell? ⟨w.heap.size, 2, none⟩ = some (.int .i64 0) := fresh2 rfl hc1 2
    have q3 : w1.cell? ⟨w.heap.size, 3, none⟩ = some (.bool false) := fresh2 rfl hc1 3
    clear hc1
    go_wp2_with fail
    refine bodyPost_ret (v := .tuple #[.agg #[.string a, .string (b ++ s), .int .i64 (p - 1), .bool false], .int .i64 0]) (by simp [results, Try.results28, go_sem, q0, q1, q2, q3]) rfl ⟨rfl, ?_⟩
    exact ((((hB.trans (hb1.mono (by simp; omega))).setCell (by simp) _).setCell (by simp) _).setCell (by simp) _).setCell (by simp) _
  · have hl : left p = p := if_neg hq
    rw [hl]; clear hl
    go_enter Try.func28, Try.ntmps28
    go_wp2_with fail
    have hB : Below w.heap.size w ((w.alloc (.cells #[.string ⟨#[]⟩, .string ⟨#[]⟩, .int .i64 0, .bool false] 23)).alloc (.cells #[.string a, .string b, .int .i64 (p), .bool false] 23)) := ((Below.refl _ w).alloc (Nat.le_refl _) _).alloc (by simp) _
    refine (write1_any a b s p false z _ ((hB.cell hb).trans hz) (Nat.lt_of_lt_of_le hb hB.size) hs).mono ?_
    rintro e w1 ⟨rfl, hb1⟩
    obtain ⟨hc1, hf1⟩ := bcell hb1
    have hz1 : w.heap.size + 1 < w1.heap.size := by have := hb1.size; simp at this; omega
    have hz0 : w.heap.size < w1.heap.size := by omega
    have q0 : w1.cell? ⟨w.heap.size, 0, none⟩ = some (.string ⟨#[]⟩) := fresh2 rfl hc1 0
    have q1 : w1.cell? ⟨w.heap.size, 1, none⟩ = some (.string ⟨#[]⟩) := fresh2 rfl hc1 1
    have q2 : w1.cell? ⟨w.heap.size, 2, none⟩ = some (.int .i64 0) := fresh2 rfl hc1 2
    have q3 : w1.cell? ⟨w.heap.size, 3, none⟩ = some (.bool false) := fresh2 rfl hc1 3
    clear hc1
    go_wp2_with fail
    refine bodyPost_ret (v := .tuple #[.agg #[.string a, .string (b ++ s), .int .i64 (p), .bool false], .int .i64 0]) (by simp [results, Try.results28, go_sem, q0, q1, q2, q3]) rfl ⟨rfl, ?_⟩
    exact ((((hB.trans (hb1.mono (by simp; omega))).setCell (by simp) _).setCell (by simp) _).setCell (by simp) _).setCell (by simp) _
theorem act1_install (z : Addr) (a b : ByteArray) (s : ByteArray) (p n : Int) (x y : Nat) (w : World) (H : Bx w x y a b p n false) (hn : ¬ 262144 < n) (hp : ¬ p = 0) (hP : p ≤ 9223372036854775807) (hz : w.cell? z = some (.string s)) (hb : z.block < w.heap.size) :
    Calls Try.prog 28 #[.func (.func 27) #[] #[.pointer (some z)], .pointer (some ⟨x, 0, none⟩), .pointer (some ⟨y, 0, none⟩)] w fun e w' => e = .returned (.tuple #[.agg #[.string s, .string ByteArray.empty, .int .i64 (left p), .bool false], .int .i64 0]) ∧ Below w.heap.size w w' := by
  obtain ⟨h0, h1, h2, h3, h4, hx, hy⟩ := H
  have hp2 : (p == 0) = false := by simpa using hp
  by_cases hq : 0 < p
  · have hl : left p = p - 1 := if_pos hq
    rw [hl]; clear hl
    go_enter Try.func28, Try.ntmps28
    go_wp2_with fail
    have hB : Below w.heap.size w ((w.alloc (.cells #[.string ⟨#[]⟩, .string ⟨#[]⟩, .int .i64 0, .bool false] 23)).alloc (.cells #[.string a, .string b, .int .i64 (p - 1), .bool false] 23)) := ((Below.refl _ w).alloc (Nat.le_refl _) _).alloc (by simp) _
    refine (install1_any a b s (p - 1) false z _ ((hB.cell hb).trans hz) (Nat.lt_of_lt_of_le hb hB.size)).mono ?_
    rintro e w1 ⟨rfl, hb1⟩
    obtain ⟨hc1, hf1⟩ := bcell hb1
    have hz1 : w.heap.size + 1 < w1.heap.size := by have := hb1.size; simp at this; omega
    have hz0 : w.heap.size < w1.heap.size := by omega
    have q0 : w1.cell? ⟨w.heap.size, 0, none⟩ = some (.string ⟨#[]⟩) := fresh2 rfl hc1 0
    have q1 : w1.cell? ⟨w.heap.size, 1, none⟩ = some (.string ⟨#[]⟩) := fresh2 rfl hc1 1
    have q2 : w1.cell? ⟨w.heap.size, 2, none⟩ = some (.int .i64 0) := fresh2 rfl hc1 2
    have q3 : w1.cell? ⟨w.heap.size, 3, none⟩ = some (.bool false) := fresh2 rfl hc1 3
    clear hc1
    go_wp2_with fail
    refine bodyPost_ret (v := .tuple #[.agg #[.string s, .string ByteArray.empty, .int .i64 (p - 1), .bool false], .int .i64 0]) (by simp [results, Try.results28, go_sem, q0, q1, q2, q3]) rfl ⟨rfl, ?_⟩
    exact ((((hB.trans (hb1.mono (by simp; omega))).setCell (by simp) _).setCell (by simp) _).setCell (by simp) _).setCell (by simp) _
  · have hl : left p = p := if_neg hq
    rw [hl]; clear hl
    go_enter Try.func28, Try.ntmps28
    go_wp2_with fail
    have hB : Below w.heap.size w ((w.alloc (.cells #[.string ⟨#[]⟩, .string ⟨#[]⟩, .int .i64 0, .bool false] 23)).alloc (.cells #[.string a, .string b, .int .i64 (p), .bool false] 23)) := ((Below.refl _ w).alloc (Nat.le_refl _) _).alloc (by simp) _
    refine (install1_any a b s p false z _ ((hB.cell hb).trans hz) (Nat.lt_of_lt_of_le hb hB.size)).mono ?_
    rintro e w1 ⟨rfl, hb1⟩
    obtain ⟨hc1, hf1⟩ := bcell hb1
    have hz1 : w.heap.size + 1 < w1.heap.size := by have := hb1.size; simp at this; omega
    have hz0 : w.heap.size < w1.heap.size := by omega
    have q0 : w1.cell? ⟨w.heap.size, 0, none⟩ = some (.string ⟨#[]⟩) := fresh2 rfl hc1 0
    have q1 : w1.cell? ⟨w.heap.size, 1, none⟩ = some (.string ⟨#[]⟩) := fresh2 rfl hc1 1
    have q2 : w1.cell? ⟨w.heap.size, 2, none⟩ = some (.int .i64 0) := fresh2 rfl hc1 2
    have q3 : w1.cell? ⟨w.heap.size, 3, none⟩ = some (.bool false) := fresh2 rfl hc1 3
    clear hc1
    go_wp2_with fail
    refine bodyPost_ret (v := .tuple #[.agg #[.string s, .string ByteArray.empty, .int .i64 (p), .bool false], .int .i64 0]) (by simp [results, Try.results28, go_sem, q0, q1, q2, q3]) rfl ⟨rfl, ?_⟩
    exact ((((hB.trans (hb1.mono (by simp; omega))).setCell (by simp) _).setCell (by simp) _).setCell (by simp) _).setCell (by simp) _
theorem act1_sync (a b : ByteArray) (p n : Int) (x y : Nat) (w : World) (H : Bx w x y a b p n false) (hn : ¬ 262144 < n) (hp : ¬ p = 0) (hP : p ≤ 9223372036854775807) (hs : a.size + b.size ≤ 1125899906842624) :
    Calls Try.prog 28 #[.func (.func 24) #[] #[], .pointer (some ⟨x, 0, none⟩), .pointer (some ⟨y, 0, none⟩)] w fun e w' => e = .returned (.tuple #[.agg #[.string (a ++ b), .string ByteArray.empty, .int .i64 (left p), .bool false], .int .i64 0]) ∧ Below w.heap.size w w' := by
  obtain ⟨h0, h1, h2, h3, h4, hx, hy⟩ := H
  have hp2 : (p == 0) = false := by simpa using hp
  by_cases hq : 0 < p
  · have hl : left p = p - 1 := if_pos hq
    rw [hl]; clear hl
    go_enter Try.func28, Try.ntmps28
    go_wp2_with fail
    have hB : Below w.heap.size w ((w.alloc (.cells #[.string ⟨#[]⟩, .string ⟨#[]⟩, .int .i64 0, .bool false] 23)).alloc (.cells #[.string a, .string b, .int .i64 (p - 1), .bool false] 23)) := ((Below.refl _ w).alloc (Nat.le_refl _) _).alloc (by simp) _
    refine (sync1_any a b (p - 1) false _ hs).mono ?_
    rintro e w1 ⟨rfl, hb1⟩
    obtain ⟨hc1, hf1⟩ := bcell hb1
    have hz1 : w.heap.size + 1 < w1.heap.size := by have := hb1.size; simp at this; omega
    have hz0 : w.heap.size < w1.heap.size := by omega
    have q0 : w1.cell? ⟨w.heap.size, 0, none⟩ = some (.string ⟨#[]⟩) := fresh2 rfl hc1 0
    have q1 : w1.cell? ⟨w.heap.size, 1, none⟩ = some (.string ⟨#[]⟩) := fresh2 rfl hc1 1
    have q2 : w1.cell? ⟨w.heap.size, 2, none⟩ = some (.int .i64 0) := fresh2 rfl hc1 2
    have q3 : w1.cell? ⟨w.heap.size, 3, none⟩ = some (.bool false) := fresh2 rfl hc1 3
    clear hc1
    go_wp2_with fail
    refine bodyPost_ret (v := .tuple #[.agg #[.string (a ++ b), .string ByteArray.empty, .int .i64 (p - 1), .bool false], .int .i64 0]) (by simp [results, Try.results28, go_sem, q0, q1, q2, q3]) rfl ⟨rfl, ?_⟩
    exact ((((hB.trans (hb1.mono (by simp; omega))).setCell (by simp) _).setCell (by simp) _).setCell (by simp) _).setCell (by simp) _
  · have hl : left p = p := if_neg hq
    rw [hl]; clear hl
    go_enter Try.func28, Try.ntmps28
    go_wp2_with fail
    have hB : Below w.heap.size w ((w.alloc (.cells #[.string ⟨#[]⟩, .string ⟨#[]⟩, .int .i64 0, .bool false] 23)).alloc (.cells #[.string a, .string b, .int .i64 (p), .bool false] 23)) := ((Below.refl _ w).alloc (Nat.le_refl _) _).alloc (by simp) _
    refine (sync1_any a b p false _ hs).mono ?_
    rintro e w1 ⟨rfl, hb1⟩
    obtain ⟨hc1, hf1⟩ := bcell hb1
    have hz1 : w.heap.size + 1 < w1.heap.size := by have := hb1.size; simp at this; omega
    have hz0 : w.heap.size < w1.heap.size := by omega
    have q0 : w1.cell? ⟨w.heap.size, 0, none⟩ = some (.string ⟨#[]⟩) := fresh2 rfl hc1 0
    have q1 : w1.cell? ⟨w.heap.size, 1, none⟩ = some (.string ⟨#[]⟩) := fresh2 rfl hc1 1
    have q2 : w1.cell? ⟨w.heap.size, 2, none⟩ = some (.int .i64 0) := fresh2 rfl hc1 2
    have q3 : w1.cell? ⟨w.heap.size, 3, none⟩ = some (.bool false) := fresh2 rfl hc1 3
    clear hc1
    go_wp2_with fail
    refine bodyPost_ret (v := .tuple #[.agg #[.string (a ++ b), .string ByteArray.empty, .int .i64 (p), .bool false], .int .i64 0]) (by simp [results, Try.results28, go_sem, q0, q1, q2, q3]) rfl ⟨rfl, ?_⟩
    exact ((((hB.trans (hb1.mono (by simp; omega))).setCell (by simp) _).setCell (by simp) _).setCell (by simp) _).setCell (by simp) _
end Go.Proofs.Ytifldjbpomnfaaa
