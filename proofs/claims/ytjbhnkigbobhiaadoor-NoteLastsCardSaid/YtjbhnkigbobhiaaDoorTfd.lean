/- Layer 3 where a seat has the reference's Write, Sync, Crash alone. -/
import Derived.Test.YtjbhnkigbobhiaaDoorTbn
namespace Go.Proofs.YtjbhnkigbobhiaaDoor
open Go.RowKit

theorem refPower_no (a b : ByteArray) (o : Bool) (w : World) : Calls Tryd.prog 37 #[.agg #[.string a, .string b, .int .i64 0, .bool o]] w fun e w' =>
    e = .returned (.tuple #[.agg #[.string a, .string b, .int .i64 0, .bool true], .bool false]) ∧ Below w.heap.size w w' := by
  go_enter Tryd.func37, Tryd.ntmps37
  go_wp2_with fail
  refine bodyPost_ret (v := .tuple #[.agg #[.string a, .string b, .int .i64 0, .bool true], .bool false]) (by simp [results, Tryd.results37, go_sem]) rfl ⟨rfl, ?_⟩
  go_grown
theorem refPower_yes (a b : ByteArray) (p : Int) (o : Bool) (w : World) (hp : ¬ p = 0) (hP : p ≤ 9223372036854775807) : Calls Tryd.prog 37 #[.agg #[.string a, .string b, .int .i64 p, .bool o]] w fun e w' =>
    e = .returned (.tuple #[.agg #[.string a, .string b, .int .i64 (left p), .bool o], .bool true]) ∧ Below w.heap.size w w' := by
  have hp2 : (p == 0) = false := by simpa using hp
  by_cases hq : 0 < p
  · have hl : left p = p - 1 := if_pos hq
    rw [hl]; clear hl
    go_enter Tryd.func37, Tryd.ntmps37
    go_wp2_with fail
    refine bodyPost_ret (v := .tuple #[.agg #[.string a, .string b, .int .i64 (p - 1), .bool o], .bool true]) (by simp [results, Tryd.results37, go_sem]) rfl ⟨rfl, ?_⟩
    go_grown
  · have hl : left p = p := if_neg hq
    rw [hl]; clear hl
    go_enter Tryd.func37, Tryd.ntmps37
    go_wp2_with fail
    refine bodyPost_ret (v := .tuple #[.agg #[.string a, .string b, .int .i64 p, .bool o], .bool true]) (by simp [results, Tryd.results37, go_sem]) rfl ⟨rfl, ?_⟩
    go_grown
theorem ref_write_off (a b s : ByteArray) (p : Int) (w : World) (_ : a.size + b.size + s.size ≤ 1125899906842624)  : Calls Tryd.prog 15 #[.agg #[.string a, .string b, .int .i64 p, .bool true], .string s] w fun e w' =>
    e = .returned (.tuple #[.agg #[.string a, .string b, .int .i64 p, .bool true], .int .i64 6]) ∧ Below w.heap.size w w' := by
  go_enter Tryd.func15, Tryd.ntmps15
  go_wp2_with fail
  refine bodyPost_ret (v := .tuple #[.agg #[.string a, .string b, .int .i64 p, .bool true], .int .i64 6]) (by simp [results, Tryd.results15, go_sem]) rfl ⟨rfl, ?_⟩
  go_grown
theorem ref_write_full (a b s : ByteArray) (p : Int) (w : World) (hs : a.size + b.size + s.size ≤ 1125899906842624) (h1 : 262144 < a.size + b.size + s.size) : Calls Tryd.prog 15 #[.agg #[.string a, .string b, .int .i64 p, .bool false], .string s] w fun e w' =>
    e = .returned (.tuple #[.agg #[.string a, .string b, .int .i64 p, .bool false], .int .i64 5]) ∧ Below w.heap.size w w' := by
  go_enter Tryd.func15, Tryd.ntmps15
  go_wp2_with fail
  refine bodyPost_ret (v := .tuple #[.agg #[.string a, .string b, .int .i64 p, .bool false], .int .i64 5]) (by simp [results, Tryd.results15, go_sem]) rfl ⟨rfl, ?_⟩
  go_grown
theorem ref_write_dead (a b s : ByteArray) (_ : Int) (w : World) (_ : a.size + b.size + s.size ≤ 1125899906842624) (h1 : ¬ 262144 < a.size + b.size + s.size)  : Calls Tryd.prog 15 #[.agg #[.string a, .string b, .int .i64 0, .bool false], .string s] w fun e w' =>
    e = .returned (.tuple #[.agg #[.string a, .string b, .int .i64 0, .bool true], .int .i64 6]) ∧ Below w.heap.size w w' := by
  go_enter Tryd.func15, Tryd.ntmps15
  go_wp2_with fail
  refine (refPower_no _ _ _ _).mono ?_
  rintro e w1 ⟨rfl, hb1⟩
  have hz0 : w.heap.size + 1 < w1.heap.size := by have := hb1.size; simp at this; omega
  have D0 : w1.cell? ⟨w.heap.size + 1, 0, none⟩ = some (.string ⟨#[]⟩) := (hb1.cell (p := ⟨w.heap.size + 1, 0, none⟩) (by simp)).trans (by simp [go_sem])
  have D1 : w1.cell? ⟨w.heap.size + 1, 1, none⟩ = some (.string ⟨#[]⟩) := (hb1.cell (p := ⟨w.heap.size + 1, 1, none⟩) (by simp)).trans (by simp [go_sem])
  have D2 : w1.cell? ⟨w.heap.size + 1, 2, none⟩ = some (.int .i64 0) := (hb1.cell (p := ⟨w.heap.size + 1, 2, none⟩) (by simp)).trans (by simp [go_sem])
  have D3 : w1.cell? ⟨w.heap.size + 1, 3, none⟩ = some (.bool false) := (hb1.cell (p := ⟨w.heap.size + 1, 3, none⟩) (by simp)).trans (by simp [go_sem])
  have FZ : ∀ i, w1.frozen? ⟨w.heap.size + 1, i, none⟩ = false := fun i => (hb1.frozen (p := ⟨w.heap.size + 1, i, none⟩) (by simp)).trans (by simp [go_sem])
  have hB : Below w.heap.size w w1 := (((Below.refl _ w).alloc (Nat.le_refl _) _).alloc (by simp) _).trans (hb1.mono (by simp; omega))
  clear hb1
  go_wp2_with fail
  refine bodyPost_ret (v := .tuple #[.agg #[.string a, .string b, .int .i64 0, .bool true], .int .i64 6]) (by simp [results, Tryd.results15, go_sem, D0, D1, D2, D3, hz0]) rfl ⟨rfl, ?_⟩
  exact ((((hB.setCell (by show w.heap.size ≤ w.heap.size + 1; omega) _).setCell (by show w.heap.size ≤ w.heap.size + 1; omega) _).setCell (by show w.heap.size ≤ w.heap.size + 1; omega) _).setCell (by show w.heap.size ≤ w.heap.size + 1; omega) _).alloc (by simp; omega) _
theorem ref_write_go (a b s : ByteArray) (p : Int) (w : World) (_ : a.size + b.size + s.size ≤ 1125899906842624) (h1 : ¬ 262144 < a.size + b.size + s.size) (hp : ¬ p = 0) (hP : p ≤ 9223372036854775807) : Calls Tryd.prog 15 #[.agg #[.string a, .string b, .int .i64 p, .bool false], .string s] w fun e w' =>
    e = .returned (.tuple #[.agg #[.string a, .string (b ++ s), .int .i64 (left p), .bool false], .int .i64 0]) ∧ Below w.heap.size w w' := by
  go_enter Tryd.func15, Tryd.ntmps15
  go_wp2_with fail
  refine (refPower_yes _ _ _ _ _ hp hP).mono ?_
  rintro e w1 ⟨rfl, hb1⟩
  have hz0 : w.heap.size + 1 < w1.heap.size := by have := hb1.size; simp at this; omega
  have D0 : w1.cell? ⟨w.heap.size + 1, 0, none⟩ = some (.string ⟨#[]⟩) := (hb1.cell (p := ⟨w.heap.size + 1, 0, none⟩) (by simp)).trans (by simp [go_sem])
  have D1 : w1.cell? ⟨w.heap.size + 1, 1, none⟩ = some (.string ⟨#[]⟩) := (hb1.cell (p := ⟨w.heap.size + 1, 1, none⟩) (by simp)).trans (by simp [go_sem])
  have D2 : w1.cell? ⟨w.heap.size + 1, 2, none⟩ = some (.int .i64 0) := (hb1.cell (p := ⟨w.heap.size + 1, 2, none⟩) (by simp)).trans (by simp [go_sem])
  have D3 : w1.cell? ⟨w.heap.size + 1, 3, none⟩ = some (.bool false) := (hb1.cell (p := ⟨w.heap.size + 1, 3, none⟩) (by simp)).trans (by simp [go_sem])
  have FZ : ∀ i, w1.frozen? ⟨w.heap.size + 1, i, none⟩ = false := fun i => (hb1.frozen (p := ⟨w.heap.size + 1, i, none⟩) (by simp)).trans (by simp [go_sem])
  have hB : Below w.heap.size w w1 := (((Below.refl _ w).alloc (Nat.le_refl _) _).alloc (by simp) _).trans (hb1.mono (by simp; omega))
  clear hb1
  go_wp2_with fail
  refine bodyPost_ret (v := .tuple #[.agg #[.string a, .string (b ++ s), .int .i64 (left p), .bool false], .int .i64 0]) (by simp [results, Tryd.results15, go_sem, D0, D1, D2, D3, hz0]) rfl ⟨rfl, ?_⟩
  exact ((((hB.setCell (by show w.heap.size ≤ w.heap.size + 1; omega) _).setCell (by show w.heap.size ≤ w.heap.size + 1; omega) _).setCell (by show w.heap.size ≤ w.heap.size + 1; omega) _).setCell (by show w.heap.size ≤ w.heap.size + 1; omega) _).alloc (by simp; omega) _
theorem ref_write_any (a b s : ByteArray) (p : Int) (o : Bool) (w : World) (hP : p ≤ 9223372036854775807) (hs : a.size + b.size + s.size ≤ 1125899906842624) : Calls Tryd.prog 15 #[.agg #[.string a, .string b, .int .i64 p, .bool o], .string s] w fun e w' => e = outT (tWrite ⟨a, b, p, o⟩ s) ∧ Below w.heap.size w w' := by
  unfold tWrite
  cases o with
  | true => exact ref_write_off a b s p w hs
  | false =>
    by_cases h1 : 262144 < a.size + b.size + s.size
    · simp only [if_pos h1]; exact ref_write_full a b s p w hs h1
    · by_cases h2 : p = 0
      · subst h2; simp only [if_neg h1]; exact ref_write_dead a b s 0 w hs h1
      · simp only [if_neg h1, if_neg h2]; exact ref_write_go a b s p w hs h1 h2 hP
theorem ref_sync_off (a b : ByteArray) (p : Int) (w : World) (_ : a.size + b.size ≤ 1125899906842624)  : Calls Tryd.prog 16 #[.agg #[.string a, .string b, .int .i64 p, .bool true]] w fun e w' =>
    e = .returned (.tuple #[.agg #[.string a, .string b, .int .i64 p, .bool true], .int .i64 6]) ∧ Below w.heap.size w w' := by
  go_enter Tryd.func16, Tryd.ntmps16
  go_wp2_with fail
  refine bodyPost_ret (v := .tuple #[.agg #[.string a, .string b, .int .i64 p, .bool true], .int .i64 6]) (by simp [results, Tryd.results16, go_sem]) rfl ⟨rfl, ?_⟩
  go_grown
theorem ref_sync_dead (a b : ByteArray) (_ : Int) (w : World) (_ : a.size + b.size ≤ 1125899906842624)  : Calls Tryd.prog 16 #[.agg #[.string a, .string b, .int .i64 0, .bool false]] w fun e w' =>
    e = .returned (.tuple #[.agg #[.string a, .string b, .int .i64 0, .bool true], .int .i64 6]) ∧ Below w.heap.size w w' := by
  go_enter Tryd.func16, Tryd.ntmps16
  go_wp2_with fail
  refine (refPower_no _ _ _ _).mono ?_
  rintro e w1 ⟨rfl, hb1⟩
  have hz0 : w.heap.size + 1 < w1.heap.size := by have := hb1.size; simp at this; omega
  have D0 : w1.cell? ⟨w.heap.size + 1, 0, none⟩ = some (.string ⟨#[]⟩) := (hb1.cell (p := ⟨w.heap.size + 1, 0, none⟩) (by simp)).trans (by simp [go_sem])
  have D1 : w1.cell? ⟨w.heap.size + 1, 1, none⟩ = some (.string ⟨#[]⟩) := (hb1.cell (p := ⟨w.heap.size + 1, 1, none⟩) (by simp)).trans (by simp [go_sem])
  have D2 : w1.cell? ⟨w.heap.size + 1, 2, none⟩ = some (.int .i64 0) := (hb1.cell (p := ⟨w.heap.size + 1, 2, none⟩) (by simp)).trans (by simp [go_sem])
  have D3 : w1.cell? ⟨w.heap.size + 1, 3, none⟩ = some (.bool false) := (hb1.cell (p := ⟨w.heap.size + 1, 3, none⟩) (by simp)).trans (by simp [go_sem])
  have FZ : ∀ i, w1.frozen? ⟨w.heap.size + 1, i, none⟩ = false := fun i => (hb1.frozen (p := ⟨w.heap.size + 1, i, none⟩) (by simp)).trans (by simp [go_sem])
  have hB : Below w.heap.size w w1 := (((Below.refl _ w).alloc (Nat.le_refl _) _).alloc (by simp) _).trans (hb1.mono (by simp; omega))
  clear hb1
  go_wp2_with fail
  refine bodyPost_ret (v := .tuple #[.agg #[.string a, .string b, .int .i64 0, .bool true], .int .i64 6]) (by simp [results, Tryd.results16, go_sem, D0, D1, D2, D3, hz0]) rfl ⟨rfl, ?_⟩
  exact ((((hB.setCell (by show w.heap.size ≤ w.heap.size + 1; omega) _).setCell (by show w.heap.size ≤ w.heap.size + 1; omega) _).setCell (by show w.heap.size ≤ w.heap.size + 1; omega) _).setCell (by show w.heap.size ≤ w.heap.size + 1; omega) _).alloc (by simp; omega) _
theorem ref_sync_go (a b : ByteArray) (p : Int) (w : World) (hs : a.size + b.size ≤ 1125899906842624) (hp : ¬ p = 0) (hP : p ≤ 9223372036854775807) : Calls Tryd.prog 16 #[.agg #[.string a, .string b, .int .i64 p, .bool false]] w fun e w' =>
    e = .returned (.tuple #[.agg #[.string (a ++ b), .string ByteArray.empty, .int .i64 (left p), .bool false], .int .i64 0]) ∧ Below w.heap.size w w' := by
  go_enter Tryd.func16, Tryd.ntmps16
  go_wp2_with fail
  refine (refPower_yes _ _ _ _ _ hp hP).mono ?_
  rintro e w1 ⟨rfl, hb1⟩
  have hz0 : w.heap.size + 1 < w1.heap.size := by have := hb1.size; simp at this; omega
  have D0 : w1.cell? ⟨w.heap.size + 1, 0, none⟩ = some (.string ⟨#[]⟩) := (hb1.cell (p := ⟨w.heap.size + 1, 0, none⟩) (by simp)).trans (by simp [go_sem])
  have D1 : w1.cell? ⟨w.heap.size + 1, 1, none⟩ = some (.string ⟨#[]⟩) := (hb1.cell (p := ⟨w.heap.size + 1, 1, none⟩) (by simp)).trans (by simp [go_sem])
  have D2 : w1.cell? ⟨w.heap.size + 1, 2, none⟩ = some (.int .i64 0) := (hb1.cell (p := ⟨w.heap.size + 1, 2, none⟩) (by simp)).trans (by simp [go_sem])
  have D3 : w1.cell? ⟨w.heap.size + 1, 3, none⟩ = some (.bool false) := (hb1.cell (p := ⟨w.heap.size + 1, 3, none⟩) (by simp)).trans (by simp [go_sem])
  have FZ : ∀ i, w1.frozen? ⟨w.heap.size + 1, i, none⟩ = false := fun i => (hb1.frozen (p := ⟨w.heap.size + 1, i, none⟩) (by simp)).trans (by simp [go_sem])
  have hB : Below w.heap.size w w1 := (((Below.refl _ w).alloc (Nat.le_refl _) _).alloc (by simp) _).trans (hb1.mono (by simp; omega))
  clear hb1
  go_wp2_with fail
  refine bodyPost_ret (v := .tuple #[.agg #[.string (a ++ b), .string ByteArray.empty, .int .i64 (left p), .bool false], .int .i64 0]) (by simp [results, Tryd.results16, go_sem, D0, D1, D2, D3, hz0, emp]) rfl ⟨rfl, ?_⟩
  exact ((((hB.setCell (by show w.heap.size ≤ w.heap.size + 1; omega) _).setCell (by show w.heap.size ≤ w.heap.size + 1; omega) _).setCell (by show w.heap.size ≤ w.heap.size + 1; omega) _).setCell (by show w.heap.size ≤ w.heap.size + 1; omega) _).alloc (by simp; omega) _
theorem ref_sync_any (a b : ByteArray) (p : Int) (o : Bool) (w : World) (hP : p ≤ 9223372036854775807) (hs : a.size + b.size ≤ 1125899906842624) : Calls Tryd.prog 16 #[.agg #[.string a, .string b, .int .i64 p, .bool o]] w fun e w' => e = outT (tSync ⟨a, b, p, o⟩) ∧ Below w.heap.size w w' := by
  unfold tSync
  cases o with
  | true => exact ref_sync_off a b p w hs
  | false =>
    by_cases h2 : p = 0
    · subst h2; exact ref_sync_dead a b 0 w hs
    · simp only [if_neg h2]; exact ref_sync_go a b p w hs h2 hP
theorem app_none (a b : ByteArray) (k : Nat) (hk : k = 0) : a ++ b.extract 0 k = a := by
  subst hk; apply ByteArray.ext; simp
set_option maxHeartbeats 1600000 in
theorem ref_crash_1 (a b : ByteArray) (p : Int) (n : Int) (o : Bool) (w : World) (hs : a.size + b.size ≤ 1125899906842624) (hn : (b.size : Int) < n) : Calls Tryd.prog 17 #[.agg #[.string a, .string b, .int .i64 p, .bool o], .int .i64 n] w fun e w' =>
    e = .returned (.agg #[.string (a ++ b), .string ByteArray.empty, .int .i64 (-1), .bool false]) ∧ Below w.heap.size w w' := by
  have h0 : ¬ n < 0 := by omega
  have hy3 : ¬ 9223372036854775807 < a.size + b.size := by omega
  go_enter Tryd.func17, Tryd.ntmps17
  go_wp2_with fail
  go_region
  go_wp2_with fail
  refine bodyPost_ret (v := .agg #[.string (a ++ b), .string ByteArray.empty, .int .i64 (-1), .bool false]) (by simp [results, Tryd.results17, go_sem, emp]) rfl ⟨rfl, ?_⟩
  refine Below.drew ?_
  go_grown
set_option maxHeartbeats 1600000 in
theorem ref_crash_2 (a b : ByteArray) (p : Int) (n : Int) (o : Bool) (w : World) (hs : a.size + b.size ≤ 1125899906842624) (hn : n < 0) : Calls Tryd.prog 17 #[.agg #[.string a, .string b, .int .i64 p, .bool o], .int .i64 n] w fun e w' =>
    e = .returned (.agg #[.string (a), .string ByteArray.empty, .int .i64 (-1), .bool false]) ∧ Below w.heap.size w w' := by
  have hy3 : ¬ 9223372036854775807 < a.size := by omega
  go_enter Tryd.func17, Tryd.ntmps17
  go_wp2_with fail
  go_region
  go_wp2_with fail
  refine bodyPost_ret (v := .agg #[.string (a), .string ByteArray.empty, .int .i64 (-1), .bool false]) (by simp [results, Tryd.results17, go_sem, emp]) rfl ⟨rfl, ?_⟩
  refine Below.drew ?_
  go_grown
set_option maxHeartbeats 1600000 in
theorem ref_crash_3 (a b : ByteArray) (p : Int) (n : Int) (k : Nat) (o : Bool) (w : World) (hs : a.size + b.size ≤ 1125899906842624) (e : n = (k : Int)) (hk : k ≤ b.size) : Calls Tryd.prog 17 #[.agg #[.string a, .string b, .int .i64 p, .bool o], .int .i64 n] w fun e w' =>
    e = .returned (.agg #[.string (a ++ b.extract 0 k), .string ByteArray.empty, .int .i64 (-1), .bool false]) ∧ Below w.heap.size w w' := by
  have h0 : ¬ (k : Int) < 0 := by omega
  have h1 : (k : Int) ≤ (b.size : Int) := by omega
  have h2 : (0 : Int) ≤ (k : Int) := by omega
  have hy3 : ¬ 9223372036854775807 < a.size + k := by omega
  have hx : (b.extract 0 k).size = k := by rw [ByteArray.size_extract]; omega
  have HX := Lib.hid hx; clear hx
  go_enter Tryd.func17, Tryd.ntmps17
  go_wp2_with fail
  go_region
  go_wp2_with fail
  refine bodyPost_ret (v := .agg #[.string (a ++ b.extract 0 k), .string ByteArray.empty, .int .i64 (-1), .bool false]) (by simp [results, Tryd.results17, go_sem, emp]) rfl ⟨rfl, ?_⟩
  refine Below.drew ?_
  go_grown
theorem ref_crash_any (a b : ByteArray) (p n : Int) (o : Bool) (w : World) (hs : a.size + b.size ≤ 1125899906842624) : Calls Tryd.prog 17 #[.agg #[.string a, .string b, .int .i64 p, .bool o], .int .i64 n] w fun e w' =>
    e = .returned (.agg #[.string (tCrash ⟨a, b, p, o⟩ n).a, .string ByteArray.empty, .int .i64 (-1), .bool false]) ∧ Below w.heap.size w w' := by
  show Calls _ _ _ _ fun e w' => e = .returned (.agg #[.string (a ++ b.extract 0 (min n.toNat b.size)), .string ByteArray.empty, .int .i64 (-1), .bool false]) ∧ Below w.heap.size w w'
  by_cases h0 : n < 0
  · rw [app_none a b _ (by omega)]; exact ref_crash_2 a b p n o w hs h0
  · by_cases h1 : (b.size : Int) < n
    · have e : b.extract 0 (min n.toNat b.size) = b := by rw [show min n.toNat b.size = b.size by omega]; simp
      rw [e]; exact ref_crash_1 a b p n o w hs h1
    · exact ref_crash_3 a b p n _ o w hs (by omega) (by omega)
end Go.Proofs.YtjbhnkigbobhiaaDoor
