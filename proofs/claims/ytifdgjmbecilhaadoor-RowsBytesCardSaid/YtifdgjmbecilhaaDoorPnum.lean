/- pack.Num: a number's bytes, for every number of 64 bits. -/
import Derived.Test.YtifdgjmbecilhaaDoorPlay
import Derived.Lib.Hide
namespace Go.Proofs.YtifdgjmbecilhaaDoor
open Go.RowKit

theorem num_big (v : Int) (w : World) (h1 : 4611686018427387904 ≤ v) :
    Calls Tryd.prog 35 #[.int .u64 v] w fun e w' => e = .returned (.tuple #[.string ⟨#[]⟩, .int .i64 4]) ∧ w = w' := by
  go_enter Tryd.func35, Tryd.ntmps35
  go_wp2_with (first | (go_at_call 51; refine (size_any _ _ (by omega)).mono ?_; rintro e w' ⟨rfl, rfl⟩; rw [szOf0 h1]))
  go_ret2
  exact ⟨rfl, rfl⟩
set_option maxHeartbeats 1000000 in
theorem num_s (s : Nat) (Z : List Value) (hZ : Hid (Z.length = s)) (hs0 : ((s : Int) == 0) = false)
    (hmk : ∀ w, (Instr.makeSlice 69 (.int .i64 s) (.int .i64 s)).run Tryd.prog w = .ok (.slice (some ⟨w.heap.size, 0, none⟩) s s) (w.alloc (.cells Z.toArray 5)))
    (v : Int) (hs : Hid (szOf v = s)) (w : World) (h0 : 0 ≤ v) (h1 : v < 4611686018427387904) (hT : Tz w) :
    Calls Tryd.prog 35 #[.int .u64 v] w fun e w' => e = .returned (.tuple #[.string ⟨(numB v.toNat).toArray⟩, .int .i64 0]) ∧ Below w.heap.size w w' := by
  have hl : Hid ((numB v.toNat).length = s) := by have := numB_len v h0 h1; have e := hs.out; show _ = _; omega
  go_enter Tryd.func35, Tryd.ntmps35
  go_wp2_with (first | (go_at_call 51; refine (size_any _ _ h0).mono ?_; rintro e w' ⟨rfl, rfl⟩; rw [hs.out]))
  refine (lay_any v _ h0 h1 w.heap.size 0 s s Z (by rw [hl.out]; exact Nat.le_refl _) (by rw [hl.out, hZ.out]; omega) (heap_alloc_new _ _) (hT.below ((Below.refl _ _).alloc hT.n _))).mono ?_
  rintro e w1 ⟨rfl, hg, hb1⟩
  have hf : splice Z 0 ((numB v.toNat).map u8v) = (numB v.toNat).map u8v := by
    unfold splice
    rw [List.take_zero, List.nil_append, List.drop_eq_nil_of_le (by rw [hZ.out, List.length_map, hl.out]; omega), List.append_nil]
  rw [hf] at hb1
  have hconv : (convert 69 9 (.slice (some ⟨w.heap.size, 0, none⟩) s s)).run Tryd.prog w1 = .ok (.string ⟨(numB v.toNat).toArray⟩) w1 := by
    have := run_convert_bytes_back (P := Tryd.prog) w1 69 9 5 ⟨w.heap.size, 0, none⟩ s (numB v.toNat) Tryd.underlying69 Tryd.underlying5 Tryd.underlying9 (fun j hj => by
      rw [addHead, cell_of_row w1 _ j _ _ _ hb1]
      simp [u8v, hj])
    rw [hl.out] at this; exact this
  have HB := Lib.hid ((Below.refl w.heap.size w).alloc (Nat.le_refl _) (.cells Z.toArray 5) |>.grown hg (by simp) (fun k hk => by cases hk; exact Nat.le_refl _))
  clear hf hb1 hg
  go_wp2_with fail
  go_ret2
  exact ⟨rfl, HB.out⟩
theorem mk1 (w : World) : (Instr.makeSlice 69 (.int .i64 1) (.int .i64 1)).run Tryd.prog w = .ok (.slice (some ⟨w.heap.size, 0, none⟩) 1 1) (w.alloc (.cells [.int .u8 0].toArray 5)) := by kernel_rfl
theorem mk2 (w : World) : (Instr.makeSlice 69 (.int .i64 2) (.int .i64 2)).run Tryd.prog w = .ok (.slice (some ⟨w.heap.size, 0, none⟩) 2 2) (w.alloc (.cells [.int .u8 0, .int .u8 0].toArray 5)) := by kernel_rfl
theorem mk4 (w : World) : (Instr.makeSlice 69 (.int .i64 4) (.int .i64 4)).run Tryd.prog w = .ok (.slice (some ⟨w.heap.size, 0, none⟩) 4 4) (w.alloc (.cells [.int .u8 0, .int .u8 0, .int .u8 0, .int .u8 0].toArray 5)) := by kernel_rfl
theorem mk8 (w : World) : (Instr.makeSlice 69 (.int .i64 8) (.int .i64 8)).run Tryd.prog w = .ok (.slice (some ⟨w.heap.size, 0, none⟩) 8 8) (w.alloc (.cells [.int .u8 0, .int .u8 0, .int .u8 0, .int .u8 0, .int .u8 0, .int .u8 0, .int .u8 0, .int .u8 0].toArray 5)) := by kernel_rfl
theorem num_any (v : Int) (w : World) (h0 : 0 ≤ v) (h1 : v < 4611686018427387904) (hT : Tz w) :
    Calls Tryd.prog 35 #[.int .u64 v] w fun e w' => e = .returned (.tuple #[.string ⟨(numB v.toNat).toArray⟩, .int .i64 0]) ∧ Below w.heap.size w w' := by
  by_cases a : v < 64
  · exact num_s 1 _ (Lib.hid rfl) rfl mk1 v (Lib.hid (szOf1 a)) w h0 h1 hT
  by_cases b : v < 16384
  · exact num_s 2 _ (Lib.hid rfl) rfl mk2 v (Lib.hid (szOf2 (by omega) b)) w h0 h1 hT
  by_cases c : v < 1073741824
  · exact num_s 4 _ (Lib.hid rfl) rfl mk4 v (Lib.hid (szOf4 (by omega) c)) w h0 h1 hT
  · exact num_s 8 _ (Lib.hid rfl) rfl mk8 v (Lib.hid (szOf8 (by omega) h1)) w h0 h1 hT
end Go.Proofs.YtifdgjmbecilhaaDoor
