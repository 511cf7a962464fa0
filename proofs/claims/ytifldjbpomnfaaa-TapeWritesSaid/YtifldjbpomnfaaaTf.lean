/- Layer 3: the reference's acts: whatever tape there is. -/
import Derived.Test.YtifldjbpomnfaaaTw
namespace Go.Proofs.Ytifldjbpomnfaaa
open Go.RowKit

theorem refPower_no (a b : ByteArray) (o : Bool) (w : World) : Calls Try.prog 23 #[.agg #[.string a, .string b, .int .i64 0, .bool o]] w fun e w' =>
    e = .returned (.tuple #[.agg #[.string a, .string b, .int .i64 0, .bool true], .bool false]) ∧ Below w.heap.size w w' := by
  go_enter Try.func23, Try.ntmps23
  go_wp2_with fail
  refine bodyPost_ret (v := .tuple #[.agg #[.string a, .string b, .int .i64 0, .bool true], .bool false]) (by simp [results, Try.results23, go_sem]) rfl ⟨rfl, ?_⟩
  go_grown
theorem refPower_yes (a b : ByteArray) (p : Int) (o : Bool) (w : World) (hp : ¬ p = 0) (hP : p ≤ 9223372036854775807) : Calls Try.prog 23 #[.agg #[.string a, .string b, .int .i64 p, .bool o]] w fun e w' =>
    e = .returned (.tuple #[.agg #[.string a, .string b, .int .i64 (left p), .bool o], .bool true]) ∧ Below w.heap.size w w' := by
  have hp2 : (p == 0) = false := by simpa using hp
  by_cases hq : 0 < p
  · have hl : left p = p - 1 := if_pos hq
    rw [hl]; clear hl
    go_enter Try.func23, Try.ntmps23
    go_wp2_with fail
    refine bodyPost_ret (v := .tuple #[.agg #[.string a, .string b, .int .i64 (p - 1), .bool o], .bool true]) (by simp [results, Try.results23, go_sem]) rfl ⟨rfl, ?_⟩
    go_grown
  · have hl : left p = p := if_neg hq
    rw [hl]; clear hl
    go_enter Try.func23, Try.ntmps23
    go_wp2_with fail
    refine bodyPost_ret (v := .tuple #[.agg #[.string a, .string b, .int .i64 p, .bool o], .bool true]) (by simp [results, Try.results23, go_sem]) rfl ⟨rfl, ?_⟩
    go_grown
theorem ref_write_off (a b s : ByteArray) (p : Int) (w : World) (_ : a.size + b.size + s.size ≤ 1125899906842624)  : Calls Try.prog 11 #[.agg #[.string a, .string b, .int .i64 p, .bool true], .string s] w fun e w' =>
    e = .returned (.tuple #[.agg #[.string a, .string b, .int .i64 p, .bool true], .int .i64 6]) ∧ Below w.heap.size w w' := by
  go_enter Try.func11, Try.ntmps11
  go_wp2_with fail
  refine bodyPost_ret (v := .tuple #[.agg #[.string a, .string b, .int .i64 p, .bool true], .int .i64 6]) (by simp [results, Try.results11, go_sem]) rfl ⟨rfl, ?_⟩
  go_grown
theorem ref_write_full (a b s : ByteArray) (p : Int) (w : World) (hs : a.size + b.size + s.size ≤ 1125899906842624) (h1 : 262144 < a.size + b.size + s.size) : Calls Try.prog 11 #[.agg #[.string a, .string b, .int .i64 p, .bool false], .string s] w fun e w' =>
    e = .returned (.tuple #[.agg #[.string a, .string b, .int .i64 p, .bool false], .int .i64 5]) ∧ Below w.heap.size w w' := by
  go_enter Try.func11, Try.ntmps11
  go_wp2_with fail
  refine bodyPost_ret (v := .tuple #[.agg #[.string a, .string b, .int .i64 p, .bool false], .int .i64 5]) (by simp [results, Try.results11, go_sem]) rfl ⟨rfl, ?_⟩
  go_grown
theorem ref_write_dead (a b s : ByteArray) (_ : Int) (w : World) (_ : a.size + b.size + s.size ≤ 1125899906842624) (h1 : ¬ 262144 < a.size + b.size + s.size)  : Calls Try.prog 11 #[.agg #[.string a, .string b, .int .i64 0, .bool false], .string s] w fun e w' =>
    e = .returned (.tuple #[.agg #[.string a, .string b, .int .i64 0, .bool true], .int .i64 6]) ∧ Below w.heap.size w w' := by
  go_enter Try.func11, Try.ntmps11
  go_wp2_with fail
  refine (refPower_no _ _ _ _).mono ?_
  rintro e w1 ⟨rfl, hb1⟩
  have hz0 : w.heap.size + 1 < w1.heap.size := by have := hb1.size; simp at this; omega
  have D0 : w1.cell? ⟨w.heap.size + 1, 0, none⟩ = some (.string ⟨#[]⟩) := (hb1.cell (p := ⟨w.heap.size + 1, 0, none⟩) (by simp)).trans (by simp [go_sem])
  have D1 : w1.cell? ⟨w.heap.size + 1, 1, none⟩ = some (.string ⟨#[]⟩) := (hb1.cell (p := ⟨w.heap.size + 1, 1, none⟩) (by simp)).trans (by simp [go_sem])
  have D2 : w1.cell? ⟨w.heap.size + 1, 2, none⟩ = some (.int .i64 0) := (hb1.cell (p := ⟨w.heap.size + 1, 2, none⟩) (by simp)).trans (by simp [go_sem])
  have D3 : w1.cell? ⟨w.heap.size + 1, 3, none⟩ = some (.bool false) := (hb1.cell (p := ⟨w.heap.size + 1, 3, none⟩) (by simp)).trans (by simp [go_sem])
  have FZ : ∀ i, w1.frozen? ⟨w.heap.size + 1, i, none⟩ = false := fun i => (hb1.frozen (p := ⟨w.heap.size + 1, i, none⟩) (by simp)).trans (by simp [go_sem])
  have hB : Below w.heap.size w w1 := (((Below.refl _ w).alloc (Nat.le_refl _) _).alloc (by simp) _).trans (hb1.mono (by simp; omega))
  clear hb1
  go_wp2_with fail
  refine bodyPost_ret (v := .tuple #[.agg #[.string a, .string b, .int .i64 0, .bool true], .int .i64 6]) (by simp [results, Try.results11, go_sem, D0, D1, D2, D3, hz0]) rfl ⟨rfl, ?_⟩
  exact ((((hB.setCell (by show w.heap.size ≤ w.heap.size + 1; omega) _).setCell (by show w.heap.size ≤ w.heap.size + 1; omega) _).setCell (by show w.heap.size ≤ w.heap.size + 1; omega) _).setCell (by show w.heap.size ≤ w.heap.size + 1; omega) _).alloc (by simp; omega) _
theorem ref_write_go (a b s : ByteArray) (p : Int) (w : World) (_ : a.size + b.size + s.size ≤ 1125899906842624) (h1 : ¬ 262144 < a.size + b.size + s.size) (hp : ¬ p = 0) (hP : p ≤ 9223372036854775807) : Calls Try.prog 11 #[.agg #[.string a, .string b, .int .i64 p, .bool false], .string s] w fun e w' =>
    e = .returned (.tuple #[.agg #[.string a, .string (b ++ s), .int .i64 (left p), .bool false], .int .i64 0]) ∧ Below w.heap.size w w' := by
  go_enter Try.func11, Try.ntmps11
  go_wp2_with fail
  refine (refPower_yes _ _ _ _ _ hp hP).mono ?_
  rintro e w1 ⟨rfl, hb1⟩
  have hz0 : w.heap.size + 1 < w1.heap.size := by have := hb1.size; simp at this; omega
  have D0 : w1.cell? ⟨w.heap.size + 1, 0, none⟩ = some (.string ⟨#[]⟩) := (hb1.cell (p := ⟨w.heap.size + 1, 0, none⟩) (by simp)).trans (by simp [go_sem])
  have D1 : w1.cell? ⟨w.heap.size + 1, 1, none⟩ = some (.string ⟨#[]⟩) := (hb1.cell (p := ⟨w.heap.size + 1, 1, none⟩) (by simp)).trans (by simp [go_sem])
  have D2 : w1.cell? ⟨w.heap.size + 1, 2, none⟩ = some (.int .i64 0) := (hb1.cell (p := ⟨w.heap.size + 1, 2, none⟩) (by simp)).trans (by simp [go_sem])
  have D3 : w1.cell? ⟨w.heap.size + 1, 3, none⟩ = some (.bool false) := (hb1.cell (p := ⟨w.heap.size + 1, 3, none⟩) (by simp)).trans (by simp [go_sem])
  have FZ : ∀ i, w1.frozen? ⟨w.heap.size + 1, i, none⟩ = false := fun i => (hb1.frozen (p := ⟨w.heap.size + 1, i, none⟩) (by simp)).trans (by simp [go_sem])
  have hB : Below w.heap.size w w1 := (((Below.refl _ w).alloc (Nat.le_refl _) _).alloc (by simp) _).trans (hb1.mono (by simp; omega))
  clear hb1
  go_wp2_with fail
  refine bodyPost_ret (v := .tuple #[.agg #[.string a, .string (b ++ s), .int .i64 (left p), .bool false], .int .i64 0]) (by simp [results, Try.results11, go_sem, D0, D1, D2, D3, hz0]) rfl ⟨rfl, ?_⟩
  exact ((((hB.setCell (by show w.heap.size ≤ w.heap.size + 1; omega) _).setCell (by show w.heap.size ≤ w.heap.size + 1; omega) _).setCell (by show w.heap.size ≤ w.heap.size + 1; omega) _).setCell (by show w.heap.size ≤ w.heap.size + 1; omega) _).alloc (by simp; omega) _
theorem ref_write_any (a b s : ByteArray) (p : Int) (o : Bool) (w : World) (hP : p ≤ 9223372036854775807) (hs : a.size + b.size + s.size ≤ 1125899906842624) : Calls Try.prog 11 #[.agg #[.string a, .string b, .int .i64 p, .bool o], .string s] w fun e w' => e = outT (tWrite ⟨a, b, p, o⟩ s) ∧ Below w.heap.size w w' := by
  unfold tWrite
  cases o with
  | true => exact ref_write_off a b s p w hs
  | false =>
    by_cases h1 : 262144 < a.size + b.size + s.size
    · simp only [if_pos h1]; exact ref_write_full a b s p w hs h1
    · by_cases h2 : p = 0
      · subst h2; simp only [if_neg h1]; exact ref_write_dead a b s 0 w hs h1
      · simp only [if_neg h1, if_neg h2]; exact ref_write_go a b s p w hs h1 h2 hP
theorem ref_sync_off (a b : ByteArray) (p : Int) (w : World) (_ : a.size + b.size ≤ 1125899906842624)  : Calls Try.prog 13 #[.agg #[.string a, .string b, .int .i64 p, .bool true]] w fun e w' =>
    e = .returned (.tuple #[.agg #[.string a, .string b, .int .i64 p, .bool true], .int .i64 6]) ∧ Below w.heap.size w w' := by
  go_enter Try.func13, Try.ntmps13
  go_wp2_with fail
  refine bodyPost_ret (v := .tuple #[.agg #[.string a, .string b, .int .i64 p, .bool true], .int .i64 6]) (by simp [results, Try.results13, go_sem]) rfl ⟨rfl, ?_⟩
  go_grown
theorem ref_sync_dead (a b : ByteArray) (_ : Int) (w : World) (_ : a.size + b.size ≤ 1125899906842624)  : Calls Try.prog 13 #[.agg #[.string a, .string b, .int .i64 0, .bool false]] w fun e w' =>
    e = .returned (.tuple #[.agg #[.string a, .string b, .int .i64 0, .bool true], .int .i64 6]) ∧ Below w.heap.size w w' := by
  go_enter Try.func13, Try.ntmps13
  go_wp2_with fail
  refine (refPower_no _ _ _ _).mono ?_
  rintro e w1 ⟨rfl, hb1⟩
  have hz0 : w.heap.size + 1 < w1.heap.size := by have := hb1.size; simp at this; omega
  have D0 : w1.cell? ⟨w.heap.size + 1, 0, none⟩ = some (.string ⟨#[]⟩) := (hb1.cell (p := ⟨w.heap.size + 1, 0, none⟩) (by simp)).trans (by simp [go_sem])
  have D1 : w1.cell? ⟨w.heap.size + 1, 1, none⟩ = some (.string ⟨#[]⟩) := (hb1.cell (p := ⟨w.heap.size + 1, 1, none⟩) (by simp)).trans (by simp [go_sem])
  have D2 : w1.cell? ⟨w.heap.size + 1, 2, none⟩ = some (.int .i64 0) := (hb1.cell (p := ⟨w.heap.size + 1, 2, none⟩) (by simp)).trans (by simp [go_sem])
  have D3 : w1.cell? ⟨w.heap.size + 1, 3, none⟩ = some (.bool false) := (hb1.cell (p := ⟨w.heap.size + 1, 3, none⟩) (by simp)).trans (by simp [go_sem])
  have FZ : ∀ i, w1.frozen? ⟨w.heap.size + 1, i, none⟩ = false := fun i => (hb1.frozen (p := ⟨w.heap.size + 1, i, none⟩) (by simp)).trans (by simp [go_sem])
  have hB : Below w.heap.size w w1 := (((Below.refl _ w).alloc (Nat.le_refl _) _).alloc (by simp) _).trans (hb1.mono (by simp; omega))
  clear hb1
  go_wp2_with fail
  refine bodyPost_ret (v := .tuple #[.agg #[.string a, .string b, .int .i64 0, .bool true], .int .i64 6]) (by simp [results, Try.results13, go_sem, D0, D1, D2, D3, hz0]) rfl ⟨rfl, ?_⟩
  exact ((((hB.setCell (by show w.heap.size ≤ w.heap.size + 1; omega) _).setCell (by show w.heap.size ≤ w.heap.size + 1; omega) _).setCell (by show w.heap.size ≤ w.heap.size + 1; omega) _).setCell (by show w.heap.size ≤ w.heap.size + 1; omega) _).alloc (by simp; omega) _
theorem ref_sync_go (a b : ByteArray) (p : Int) (w : World) (hs : a.size + b.size ≤ 1125899906842624) (hp : ¬ p = 0) (hP : p ≤ 9223372036854775807) : Calls Try.prog 13 #[.agg #[.string a, .string b, .int .i64 p, .bool false]] w fun e w' =>
    e = .returned (.tuple #[.agg #[.string (a ++ b), .string ByteArray.empty, .int .i64 (left p), .bool false], .int .i64 0]) ∧ Below w.heap.size w w' := by
  go_enter Try.func13, Try.ntmps13
  go_wp2_with fail
  refine (refPower_yes _ _ _ _ _ hp hP).mono ?_
  rintro e w1 ⟨rfl, hb1⟩
  have hz0 : w.heap.size + 1 < w1.heap.size := by have := hb1.size; simp at this; omega
  have D0 : w1.cell? ⟨w.heap.size + 1, 0, none⟩ = some (.string ⟨#[]⟩) := (hb1.cell (p := ⟨w.heap.size + 1, 0, none⟩) (by simp)).trans (by simp [go_sem])
  have D1 : w1.cell? ⟨w.heap.size + 1, 1, none⟩ = some (.string ⟨#[]⟩) := (hb1.cell (p := ⟨w.heap.size + 1, 1, none⟩) (by simp)).trans (by simp [go_sem])
  have D2 : w1.cell? ⟨w.heap.size + 1, 2, none⟩ = some (.int .i64 0) := (hb1.cell (p := ⟨w.heap.size + 1, 2, none⟩) (by simp)).trans (by simp [go_sem])
  have D3 : w1.cell? ⟨w.heap.size + 1, 3, none⟩ = some (.bool false) := (hb1.cell (p := ⟨w.heap.size + 1, 3, none⟩) (by simp)).trans (by simp [go_sem])
  have FZ : ∀ i, w1.frozen? ⟨w.heap.size + 1, i, none⟩ = false := fun i => (hb1.frozen (p := ⟨w.heap.size + 1, i, none⟩) (by simp)).trans (by simp [go_sem])
  have hB : Below w.heap.size w w1 := (((Below.refl _ w).alloc (Nat.le_refl _) _).alloc (by simp) _).trans (hb1.mono (by simp; omega))
  clear hb1
  go_wp2_with fail
  refine bodyPost_ret (v := .tuple #[.agg #[.string (a ++ b), .string ByteArray.empty, .int .i64 (left p), .bool false], .int .i64 0]) (by simp [results, Try.results13, go_sem, D0, D1, D2, D3, hz0, emp]) rfl ⟨rfl, ?_⟩
  exact ((((hB.setCell (by show w.heap.size ≤ w.heap.size + 1; omega) _).setCell (by show w.heap.size ≤ w.heap.size + 1; omega) _).setCell (by show w.heap.size ≤ w.heap.size + 1; omega) _).setCell (by show w.heap.size ≤ w.heap.size + 1; omega) _).alloc (by simp; omega) _
theorem ref_sync_any (a b : ByteArray) (p : Int) (o : Bool) (w : World) (hP : p ≤ 9223372036854775807) (hs : a.size + b.size ≤ 1125899906842624) : Calls Try.prog 13 #[.agg #[.string a, .string b, .int .i64 p, .bool o]] w fun e w' => e = outT (tSync ⟨a, b, p, o⟩) ∧ Below w.heap.size w w' := by
  unfold tSync
  cases o with
  | true => exact ref_sync_off a b p w hs
  | false =>
    by_cases h2 : p = 0
    · subst h2; exact ref_sync_dead a b 0 w hs
    · simp only [if_neg h2]; exact ref_sync_go a b p w hs h2 hP
theorem ref_install_off (a b s : ByteArray) (p : Int) (w : World) (_ : s.size ≤ 1125899906842624)  : Calls Try.prog 15 #[.agg #[.string a, .string b, .int .i64 p, .bool true], .string s] w fun e w' =>
    e = .returned (.tuple #[.agg #[.string a, .string b, .int .i64 p, .bool true], .int .i64 6]) ∧ Below w.heap.size w w' := by
  go_enter Try.func15, Try.ntmps15
  go_wp2_with fail
  refine bodyPost_ret (v := .tuple #[.agg #[.string a, .string b, .int .i64 p, .bool true], .int .i64 6]) (by simp [results, Try.results15, go_sem]) rfl ⟨rfl, ?_⟩
  go_grown
theorem ref_install_full (a b s : ByteArray) (p : Int) (w : World) (hs : s.size ≤ 1125899906842624) (h1 : 262144 < s.size) : Calls Try.prog 15 #[.agg #[.string a, .string b, .int .i64 p, .bool false], .string s] w fun e w' =>
    e = .returned (.tuple #[.agg #[.string a, .string b, .int .i64 p, .bool false], .int .i64 5]) ∧ Below w.heap.size w w' := by
  go_enter Try.func15, Try.ntmps15
  go_wp2_with fail
  refine bodyPost_ret (v := .tuple #[.agg #[.string a, .string b, .int .i64 p, .bool false], .int .i64 5]) (by simp [results, Try.results15, go_sem]) rfl ⟨rfl, ?_⟩
  go_grown
theorem ref_install_dead (a b s : ByteArray) (_ : Int) (w : World) (hs : s.size ≤ 1125899906842624) (h1 : ¬ 262144 < s.size)  : Calls Try.prog 15 #[.agg #[.string a, .string b, .int .i64 0, .bool false], .string s] w fun e w' =>
    e = .returned (.tuple #[.agg #[.string a, .string b, .int .i64 0, .bool true], .int .i64 6]) ∧ Below w.heap.size w w' := by
  go_enter Try.func15, Try.ntmps15
  go_wp2_with fail
  refine (refPower_no _ _ _ _).mono ?_
  rintro e w1 ⟨rfl, hb1⟩
  have hz0 : w.heap.size + 1 < w1.heap.size := by have := hb1.size; simp at this; omega
  have D0 : w1.cell? ⟨w.heap.size + 1, 0, none⟩ = some (.string ⟨#[]⟩) := (hb1.cell (p := ⟨w.heap.size + 1, 0, none⟩) (by simp)).trans (by simp [go_sem])
  have D1 : w1.cell? ⟨w.heap.size + 1, 1, none⟩ = some (.string ⟨#[]⟩) := (hb1.cell (p := ⟨w.heap.size + 1, 1, none⟩) (by simp)).trans (by simp [go_sem])
  have D2 : w1.cell? ⟨w.heap.size + 1, 2, none⟩ = some (.int .i64 0) := (hb1.cell (p := ⟨w.heap.size + 1, 2, none⟩) (by simp)).trans (by simp [go_sem])
  have D3 : w1.cell? ⟨w.heap.size + 1, 3, none⟩ = some (.bool false) := (hb1.cell (p := ⟨w.heap.size + 1, 3, none⟩) (by simp)).trans (by simp [go_sem])
  have FZ : ∀ i, w1.frozen? ⟨w.heap.size + 1, i, none⟩ = false := fun i => (hb1.frozen (p := ⟨w.heap.size + 1, i, none⟩) (by simp)).trans (by simp [go_sem])
  have hB : Below w.heap.size w w1 := (((Below.refl _ w).alloc (Nat.le_refl _) _).alloc (by simp) _).trans (hb1.mono (by simp; omega))
  clear hb1
  go_wp2_with fail
  refine bodyPost_ret (v := .tuple #[.agg #[.string a, .string b, .int .i64 0, .bool true], .int .i64 6]) (by simp [results, Try.results15, go_sem, D0, D1, D2, D3, hz0]) rfl ⟨rfl, ?_⟩
  exact ((((hB.setCell (by show w.heap.size ≤ w.heap.size + 1; omega) _).setCell (by show w.heap.size ≤ w.heap.size + 1; omega) _).setCell (by show w.heap.size ≤ w.heap.size + 1; omega) _).setCell (by show w.heap.size ≤ w.heap.size + 1; omega) _).alloc (by simp; omega) _
theorem ref_install_go (a b s : ByteArray) (p : Int) (w : World) (hs : s.size ≤ 1125899906842624) (h1 : ¬ 262144 < s.size) (hp : ¬ p = 0) (hP : p ≤ 9223372036854775807) : Calls Try.prog 15 #[.agg #[.string a, .string b, .int .i64 p, .bool false], .string s] w fun e w' =>
    e = .returned (.tuple #[.agg #[.string s, .string ByteArray.empty, .int .i64 (left p), .bool false], .int .i64 0]) ∧ Below w.heap.size w w' := by
  go_enter Try.func15, Try.ntmps15
  go_wp2_with fail
  refine (refPower_yes _ _ _ _ _ hp hP).mono ?_
  rintro e w1 ⟨rfl, hb1⟩
  have hz0 : w.heap.size + 1 < w1.heap.size := by have := hb1.size; simp at this; omega
  have D0 : w1.cell? ⟨w.heap.size + 1, 0, none⟩ = some (.string ⟨#[]⟩) := (hb1.cell (p := ⟨w.heap.size + 1, 0, none⟩) (by simp)).trans (by simp [go_sem])
  have D1 : w1.cell? ⟨w.heap.size + 1, 1, none⟩ = some (.string ⟨#[]⟩) := (hb1.cell (p := ⟨w.heap.size + 1, 1, none⟩) (by simp)).trans (by simp [go_sem])
  have D2 : w1.cell? ⟨w.heap.size + 1, 2, none⟩ = some (.int .i64 0) := (hb1.cell (p := ⟨w.heap.size + 1, 2, none⟩) (by simp)).trans (by simp [go_sem])
  have D3 : w1.cell? ⟨w.heap.size + 1, 3, none⟩ = some (.bool false) := (hb1.cell (p := ⟨w.heap.size + 1, 3, none⟩) (by simp)).trans (by simp [go_sem])
  have FZ : ∀ i, w1.frozen? ⟨w.heap.size + 1, i, none⟩ = false := fun i => (hb1.frozen (p := ⟨w.heap.size + 1, i, none⟩) (by simp)).trans (by simp [go_sem])
  have hB : Below w.heap.size w w1 := (((Below.refl _ w).alloc (Nat.le_refl _) _).alloc (by simp) _).trans (hb1.mono (by simp; omega))
  clear hb1
  go_wp2_with fail
  refine bodyPost_ret (v := .tuple #[.agg #[.string s, .string ByteArray.empty, .int .i64 (left p), .bool false], .int .i64 0]) (by simp [results, Try.results15, go_sem, D0, D1, D2, D3, hz0, emp]) rfl ⟨rfl, ?_⟩
  exact ((((hB.setCell (by show w.heap.size ≤ w.heap.size + 1; omega) _).setCell (by show w.heap.size ≤ w.heap.size + 1; omega) _).setCell (by show w.heap.size ≤ w.heap.size + 1; omega) _).setCell (by show w.heap.size ≤ w.heap.size + 1; omega) _).alloc (by simp; omega) _
theorem ref_install_any (a b s : ByteArray) (p : Int) (o : Bool) (w : World) (hP : p ≤ 9223372036854775807) (hs : s.size ≤ 1125899906842624) : Calls Try.prog 15 #[.agg #[.string a, .string b, .int .i64 p, .bool o], .string s] w fun e w' => e = outT (tInstall ⟨a, b, p, o⟩ s) ∧ Below w.heap.size w w' := by
  unfold tInstall
  cases o with
  | true => exact ref_install_off a b s p w hs
  | false =>
    by_cases h1 : 262144 < s.size
    · simp only [if_pos h1]; exact ref_install_full a b s p w hs h1
    · by_cases h2 : p = 0
      · subst h2; simp only [if_neg h1]; exact ref_install_dead a b s 0 w hs h1
      · simp only [if_neg h1, if_neg h2]; exact ref_install_go a b s p w hs h1 h2 hP
end Go.Proofs.Ytifldjbpomnfaaa
