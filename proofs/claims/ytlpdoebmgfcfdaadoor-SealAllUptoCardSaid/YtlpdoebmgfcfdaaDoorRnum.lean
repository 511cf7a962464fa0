/- The reference of layer 1, Num: a number's bytes, for every number of 64 bits. -/
import Derived.Test.YtlpdoebmgfcfdaaDoorSl
import Derived.Lib.Hide
namespace Go.Proofs.YtlpdoebmgfcfdaaDoor
open Go.RowKit

theorem refNum_big (v : Int) (w : World) (h1 : 4611686018427387904 ≤ v) :
    Calls Tryd.prog 25 #[.int .u64 v] w fun e w' => e = .returned (.tuple #[.string ⟨#[]⟩, .int .i64 4]) ∧ w = w' := by
  go_enter Tryd.func25, Tryd.ntmps25
  go_wp2_with (first | (go_at_call 30; refine (refSize_any _ _ (by omega)).mono ?_; rintro e w' ⟨rfl, rfl⟩; rw [szOf0 h1]))
  go_ret2
  exact ⟨rfl, rfl⟩
/-- string([]byte{c}). -/
theorem one_byte (w : World) (c : Int) : (convert 44 9 (.slice (some ⟨w.heap.size, 0, none⟩) 1 1)).run Tryd.prog (w.alloc (.cells #[.int .u8 c] 5)) = .ok (.string ⟨[UInt8.ofNat c.toNat].toArray⟩) (w.alloc (.cells #[.int .u8 c] 5)) := by
  rw [run_convert_bytes_string _ 44 9 5 _ _ _ Tryd.underlying44 Tryd.underlying5 Tryd.underlying9]
  have hl := run_loadCells_list (P := Tryd.prog) (w.alloc (.cells #[.int .u8 c] 5)) ⟨w.heap.size, 0, none⟩ [Value.int .u8 c] (fun j x hj => by
    rw [addHead]; exact (World.cell?_alloc_new _ _ _ _).trans (by simpa using hj))
  rw [run_bytesToString _ _ 1 1 [c] hl]
  rfl
theorem one_byte_at (w : World) (n : Nat) (c : Int) (hn : n = w.heap.size) : (convert 44 9 (.slice (some ⟨n, 0, none⟩) 1 1)).run Tryd.prog (w.alloc (.cells #[.int .u8 c] 5)) = .ok (.string ⟨[UInt8.ofNat c.toNat].toArray⟩) (w.alloc (.cells #[.int .u8 c] 5)) := by
  subst hn; exact one_byte w c
theorem mkApp1 (a : UInt8) (l : List UInt8) : (ByteArray.mk #[a]) ++ ByteArray.mk l.toArray = ByteArray.mk (a :: l).toArray := ByteArray.mk_append_mk [a] l
theorem retStr {s t : ByteArray} {k : IntKind} {e : Int} (h : s = t) : Ending.returned (.tuple #[.string s, .int k e]) = .returned (.tuple #[.string t, .int k e]) := by rw [h]
theorem str_1 (v : Int) (h0 : 0 ≤ v) (h1 : v < 64) : (ByteArray.mk #[UInt8.ofNat ((v) % 256).toNat] ++ { data := #[] }) = ByteArray.mk (numB v.toNat).toArray := by
  obtain ⟨n, rfl⟩ := Int.eq_ofNat_of_zero_le (show 0 ≤ v by omega)
  simp only [mkApp1]
  refine congrArg (fun l : List UInt8 => ByteArray.mk l.toArray) ?_
  rw [Int.toNat_natCast, numB_1 (by omega)]
  simp only [beB, List.range_succ, List.range_zero, List.nil_append, List.map_cons, List.map_nil, Nat.reduceSub, Nat.reducePow, Nat.div_one]
  congr 1; exact u8_of (by omega)
set_option maxHeartbeats 1000000 in
theorem refNum_1 (v : Int) (w : World) (h0 : 0 ≤ v) (h1 : v < 64) :
    Calls Tryd.prog 25 #[.int .u64 v] w fun e w' => e = .returned (.tuple #[.string ⟨(numB v.toNat).toArray⟩, .int .i64 0]) ∧ Below w.heap.size w w' := by
  have hc := one_byte_at
  go_enter Tryd.func25, Tryd.ntmps25
  go_wp2_with (first | (go_at_call 30; refine (refSize_any _ _ (by omega)).mono ?_; rintro e w' ⟨rfl, rfl⟩; rw [szOf1 h1]))
  refine wp_loop_rounds 2 ?_
  iterate 2 (any_goals (rw [rounds_succ]; go_wp2_with fail))
  go_ret2
  refine ⟨retStr ?_, ?_⟩
  · exact str_1 v h0 h1
  · repeat (first | exact Below.refl _ _ | refine Below.alloc ?_ (by simp <;> omega) _)
theorem str_2 (v : Int) (h0 : 64 ≤ v) (h1 : v < 16384) : (ByteArray.mk #[UInt8.ofNat (((v + 16384) / 256) % 256).toNat] ++ (ByteArray.mk #[UInt8.ofNat (((v + 16384)) % 256).toNat] ++ { data := #[] })) = ByteArray.mk (numB v.toNat).toArray := by
  obtain ⟨n, rfl⟩ := Int.eq_ofNat_of_zero_le (show 0 ≤ v by omega)
  simp only [mkApp1]
  refine congrArg (fun l : List UInt8 => ByteArray.mk l.toArray) ?_
  rw [Int.toNat_natCast, numB_2 (by omega) (by omega)]
  simp only [beB, List.range_succ, List.range_zero, List.nil_append, List.cons_append, List.map_cons, List.map_nil, Nat.reduceSub, Nat.reducePow, Nat.div_one]
  congr 1; exact u8_of (by omega)
  congr 1; exact u8_of (by omega)
set_option maxHeartbeats 1000000 in
theorem refNum_2 (v : Int) (w : World) (h0 : 64 ≤ v) (h1 : v < 16384) :
    Calls Tryd.prog 25 #[.int .u64 v] w fun e w' => e = .returned (.tuple #[.string ⟨(numB v.toNat).toArray⟩, .int .i64 0]) ∧ Below w.heap.size w w' := by
  have hc := one_byte_at
  go_enter Tryd.func25, Tryd.ntmps25
  go_wp2_with (first | (go_at_call 30; refine (refSize_any _ _ (by omega)).mono ?_; rintro e w' ⟨rfl, rfl⟩; rw [szOf2 h0 h1]))
  refine wp_loop_rounds 3 ?_
  iterate 3 (any_goals (rw [rounds_succ]; go_wp2_with fail))
  go_ret2
  refine ⟨retStr ?_, ?_⟩
  · exact str_2 v h0 h1
  · repeat (first | exact Below.refl _ _ | refine Below.alloc ?_ (by simp <;> omega) _)
theorem str_4 (v : Int) (h0 : 16384 ≤ v) (h1 : v < 1073741824) : (ByteArray.mk #[UInt8.ofNat (((v + 2147483648) / 256 / 256 / 256) % 256).toNat] ++ (ByteArray.mk #[UInt8.ofNat (((v + 2147483648) / 256 / 256) % 256).toNat] ++ (ByteArray.mk #[UInt8.ofNat (((v + 2147483648) / 256) % 256).toNat] ++ (ByteArray.mk #[UInt8.ofNat (((v + 2147483648)) % 256).toNat] ++ { data := #[] })))) = ByteArray.mk (numB v.toNat).toArray := by
  obtain ⟨n, rfl⟩ := Int.eq_ofNat_of_zero_le (show 0 ≤ v by omega)
  simp only [mkApp1]
  refine congrArg (fun l : List UInt8 => ByteArray.mk l.toArray) ?_
  rw [Int.toNat_natCast, numB_4 (by omega) (by omega)]
  simp only [beB, List.range_succ, List.range_zero, List.nil_append, List.cons_append, List.map_cons, List.map_nil, Nat.reduceSub, Nat.reducePow, Nat.div_one]
  congr 1; exact u8_of (by omega)
  congr 1; exact u8_of (by omega)
  congr 1; exact u8_of (by omega)
  congr 1; exact u8_of (by omega)
set_option maxHeartbeats 1000000 in
theorem refNum_4 (v : Int) (w : World) (h0 : 16384 ≤ v) (h1 : v < 1073741824) :
    Calls Tryd.prog 25 #[.int .u64 v] w fun e w' => e = .returned (.tuple #[.string ⟨(numB v.toNat).toArray⟩, .int .i64 0]) ∧ Below w.heap.size w w' := by
  have hc := one_byte_at
  go_enter Tryd.func25, Tryd.ntmps25
  go_wp2_with (first | (go_at_call 30; refine (refSize_any _ _ (by omega)).mono ?_; rintro e w' ⟨rfl, rfl⟩; rw [szOf4 h0 h1]))
  refine wp_loop_rounds 5 ?_
  iterate 5 (any_goals (rw [rounds_succ]; go_wp2_with fail))
  go_ret2
  refine ⟨retStr ?_, ?_⟩
  · exact str_4 v h0 h1
  · repeat (first | exact Below.refl _ _ | refine Below.alloc ?_ (by simp <;> omega) _)
theorem str_8 (v : Int) (h0 : 1073741824 ≤ v) (h1 : v < 4611686018427387904) : (ByteArray.mk #[UInt8.ofNat (((v + 13835058055282163712) / 256 / 256 / 256 / 256 / 256 / 256 / 256) % 256).toNat] ++ (ByteArray.mk #[UInt8.ofNat (((v + 13835058055282163712) / 256 / 256 / 256 / 256 / 256 / 256) % 256).toNat] ++ (ByteArray.mk #[UInt8.ofNat (((v + 13835058055282163712) / 256 / 256 / 256 / 256 / 256) % 256).toNat] ++ (ByteArray.mk #[UInt8.ofNat (((v + 13835058055282163712) / 256 / 256 / 256 / 256) % 256).toNat] ++ (ByteArray.mk #[UInt8.ofNat (((v + 13835058055282163712) / 256 / 256 / 256) % 256).toNat] ++ (ByteArray.mk #[UInt8.ofNat (((v + 13835058055282163712) / 256 / 256) % 256).toNat] ++ (ByteArray.mk #[UInt8.ofNat (((v + 13835058055282163712) / 256) % 256).toNat] ++ (ByteArray.mk #[UInt8.ofNat (((v + 13835058055282163712)) % 256).toNat] ++ { data := #[] })))))))) = ByteArray.mk (numB v.toNat).toArray := by
  obtain ⟨n, rfl⟩ := Int.eq_ofNat_of_zero_le (show 0 ≤ v by omega)
  simp only [mkApp1]
  refine congrArg (fun l : List UInt8 => ByteArray.mk l.toArray) ?_
  rw [Int.toNat_natCast, numB_8 (by omega)]
  simp only [beB, List.range_succ, List.range_zero, List.nil_append, List.cons_append, List.map_cons, List.map_nil, Nat.reduceSub, Nat.reducePow, Nat.div_one]
  congr 1; exact u8_of (by omega)
  congr 1; exact u8_of (by omega)
  congr 1; exact u8_of (by omega)
  congr 1; exact u8_of (by omega)
  congr 1; exact u8_of (by omega)
  congr 1; exact u8_of (by omega)
  congr 1; exact u8_of (by omega)
  congr 1; exact u8_of (by omega)
set_option maxHeartbeats 1000000 in
theorem refNum_8 (v : Int) (w : World) (h0 : 1073741824 ≤ v) (h1 : v < 4611686018427387904) :
    Calls Tryd.prog 25 #[.int .u64 v] w fun e w' => e = .returned (.tuple #[.string ⟨(numB v.toNat).toArray⟩, .int .i64 0]) ∧ Below w.heap.size w w' := by
  have hc := one_byte_at
  go_enter Tryd.func25, Tryd.ntmps25
  go_wp2_with (first | (go_at_call 30; refine (refSize_any _ _ (by omega)).mono ?_; rintro e w' ⟨rfl, rfl⟩; rw [szOf8 h0 h1]))
  refine wp_loop_rounds 9 ?_
  iterate 9 (any_goals (rw [rounds_succ]; go_wp2_with fail))
  go_ret2
  refine ⟨retStr ?_, ?_⟩
  · exact str_8 v h0 h1
  · repeat (first | exact Below.refl _ _ | refine Below.alloc ?_ (by simp <;> omega) _)
theorem refNum_any (v : Int) (w : World) (h0 : 0 ≤ v) (h1 : v < 4611686018427387904) :
    Calls Tryd.prog 25 #[.int .u64 v] w fun e w' => e = .returned (.tuple #[.string ⟨(numB v.toNat).toArray⟩, .int .i64 0]) ∧ Below w.heap.size w w' := by
  by_cases a : v < 64
  · exact refNum_1 v w h0 a
  by_cases b : v < 16384
  · exact refNum_2 v w (by omega) b
  by_cases c : v < 1073741824
  · exact refNum_4 v w (by omega) c
  · exact refNum_8 v w (by omega) h1
end Go.Proofs.YtlpdoebmgfcfdaaDoor
