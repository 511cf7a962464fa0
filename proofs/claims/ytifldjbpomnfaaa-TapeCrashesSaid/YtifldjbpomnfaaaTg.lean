/- Layer 3: the reference's Crash and Powered. -/
import Derived.Test.YtifldjbpomnfaaaTc
namespace Go.Proofs.Ytifldjbpomnfaaa
open Go.RowKit

theorem ref_powered_any (a b : ByteArray) (p n : Int) (o : Bool) (w : World) : Calls Try.prog 20 #[.agg #[.string a, .string b, .int .i64 p, .bool o], .int .i64 n] w fun e w' =>
    e = .returned (.agg #[.string a, .string b, .int .i64 (tPower ⟨a, b, p, o⟩ n).p, .bool o]) ∧ Below w.heap.size w w' := by
  unfold tPower
  by_cases hn : n < 0
  · simp only [if_pos hn]
    go_enter Try.func20, Try.ntmps20
    go_wp2_with fail
    refine bodyPost_ret (v := .agg #[.string a, .string b, .int .i64 (-1), .bool o]) (by simp [results, Try.results20, go_sem]) rfl ⟨rfl, ?_⟩
    go_grown
  · simp only [if_neg hn]
    go_enter Try.func20, Try.ntmps20
    go_wp2_with fail
    refine bodyPost_ret (v := .agg #[.string a, .string b, .int .i64 n, .bool o]) (by simp [results, Try.results20, go_sem]) rfl ⟨rfl, ?_⟩
    go_grown
set_option maxHeartbeats 1600000 in
theorem ref_crash_1 (a b : ByteArray) (p : Int) (n : Int) (o : Bool) (w : World) (hs : a.size + b.size ≤ 1125899906842624) (hn : (b.size : Int) < n) : Calls Try.prog 18 #[.agg #[.string a, .string b, .int .i64 p, .bool o], .int .i64 n] w fun e w' =>
    e = .returned (.agg #[.string (a ++ b), .string ByteArray.empty, .int .i64 (-1), .bool false]) ∧ Below w.heap.size w w' := by
  have h0 : ¬ n < 0 := by omega
  have hy3 : ¬ 9223372036854775807 < a.size + b.size := by omega
  go_enter Try.func18, Try.ntmps18
  go_wp2_with fail
  go_region
  go_wp2_with fail
  refine bodyPost_ret (v := .agg #[.string (a ++ b), .string ByteArray.empty, .int .i64 (-1), .bool false]) (by simp [results, Try.results18, go_sem, emp]) rfl ⟨rfl, ?_⟩
  refine Below.drew ?_
  go_grown
set_option maxHeartbeats 1600000 in
theorem ref_crash_2 (a b : ByteArray) (p : Int) (n : Int) (o : Bool) (w : World) (hs : a.size + b.size ≤ 1125899906842624) (hn : n < 0) : Calls Try.prog 18 #[.agg #[.string a, .string b, .int .i64 p, .bool o], .int .i64 n] w fun e w' =>
    e = .returned (.agg #[.string (a), .string ByteArray.empty, .int .i64 (-1), .bool false]) ∧ Below w.heap.size w w' := by
  have hy3 : ¬ 9223372036854775807 < a.size := by omega
  go_enter Try.func18, Try.ntmps18
  go_wp2_with fail
  go_region
  go_wp2_with fail
  refine bodyPost_ret (v := .agg #[.string (a), .string ByteArray.empty, .int .i64 (-1), .bool false]) (by simp [results, Try.results18, go_sem, emp]) rfl ⟨rfl, ?_⟩
  refine Below.drew ?_
  go_grown
set_option maxHeartbeats 1600000 in
theorem ref_crash_3 (a b : ByteArray) (p : Int) (n : Int) (k : Nat) (o : Bool) (w : World) (hs : a.size + b.size ≤ 1125899906842624) (e : n = (k : Int)) (hk : k ≤ b.size) : Calls Try.prog 18 #[.agg #[.string a, .string b, .int .i64 p, .bool o], .int .i64 n] w fun e w' =>
    e = .returned (.agg #[.string (a ++ b.extract 0 k), .string ByteArray.empty, .int .i64 (-1), .bool false]) ∧ Below w.heap.size w w' := by
  have h0 : ¬ (k : Int) < 0 := by omega
  have h1 : (k : Int) ≤ (b.size : Int) := by omega
  have h2 : (0 : Int) ≤ (k : Int) := by omega
  have hy3 : ¬ 9223372036854775807 < a.size + k := by omega
  have hx : (b.extract 0 k).size = k := by rw [ByteArray.size_extract]; omega
  have HX := Lib.hid hx; clear hx
  go_enter Try.func18, Try.ntmps18
  go_wp2_with fail
  go_region
  go_wp2_with fail
  refine bodyPost_ret (v := .agg #[.string (a ++ b.extract 0 k), .string ByteArray.empty, .int .i64 (-1), .bool false]) (by simp [results, Try.results18, go_sem, emp]) rfl ⟨rfl, ?_⟩
  refine Below.drew ?_
  go_grown
theorem ref_crash_any (a b : ByteArray) (p n : Int) (o : Bool) (w : World) (hs : a.size + b.size ≤ 1125899906842624) : Calls Try.prog 18 #[.agg #[.string a, .string b, .int .i64 p, .bool o], .int .i64 n] w fun e w' =>
    e = .returned (.agg #[.string (tCrash ⟨a, b, p, o⟩ n).a, .string ByteArray.empty, .int .i64 (-1), .bool false]) ∧ Below w.heap.size w w' := by
  show Calls _ _ _ _ fun e w' => e = .returned (.agg #[.string (a ++ b.extract 0 (min n.toNat b.size)), .string ByteArray.empty, .int .i64 (-1), .bool false]) ∧ Below w.heap.size w w'
  by_cases h0 : n < 0
  · rw [app_none a b _ (by omega)]; exact ref_crash_2 a b p n o w hs h0
  · by_cases h1 : (b.size : Int) < n
    · have e : b.extract 0 (min n.toNat b.size) = b := by rw [show min n.toNat b.size = b.size by omega]; simp
      rw [e]; exact ref_crash_1 a b p n o w hs h1
    · exact ref_crash_3 a b p n _ o w hs (by omega) (by omega)
end Go.Proofs.Ytifldjbpomnfaaa
