/- pack.Num: a number's bytes. -/
import Derived.Test.YtifdgjmbecilhaaDoorPb
import Derived.Laws.CopyOwn
import Derived.Deep.QuietTactic
import Derived.BigQuiet
import Derived.Deep.DeepMust
import Derived.Deep.RegionWith
namespace Go.Proofs.YtifdgjmbecilhaaDoor
open Go.RowKit
/-- bits.TrailingZeros at a number whose place in the table is known. -/
theorem tz_at (x k : Int) (i : Nat) (w : World) (h0 : (x == 0) = false) (hi : IntKind.u64.wrap (Go.bits BinOp.and IntKind.u64 x (IntKind.u64.wrap (-x)) * 285870213051353865) / 288230376151711744 = (i : Int)) (hi2 : i < 64)
    (hk : 0 ≤ k) (hk2 : k ≤ 255) (h : w.cell? ⟨1, i, none⟩ = some (.int .u8 k)) :
    Calls Tryd.prog 58 #[.int .u64 x] w fun e w' => e = .returned (.int .i64 k) ∧ w = w' := by
  go_enter Tryd.func58, Tryd.ntmps58
  go_wp2
  go_ret
  exact ⟨rfl, rfl⟩
theorem tz_1 (w : World) (h : Tz w) : Calls Tryd.prog 58 #[.int .u64 1] w fun e w' => e = .returned (.int .i64 0) ∧ w = w' :=
  tz_at 1 0 0 w rfl (by kernel_rfl) (by decide) (by decide) (by decide) h.c0
theorem tz_2 (w : World) (h : Tz w) : Calls Tryd.prog 58 #[.int .u64 2] w fun e w' => e = .returned (.int .i64 1) ∧ w = w' :=
  tz_at 2 1 1 w rfl (by kernel_rfl) (by decide) (by decide) (by decide) h.c1
theorem tz_4 (w : World) (h : Tz w) : Calls Tryd.prog 58 #[.int .u64 4] w fun e w' => e = .returned (.int .i64 2) ∧ w = w' :=
  tz_at 4 2 3 w rfl (by kernel_rfl) (by decide) (by decide) (by decide) h.c3
theorem tz_8 (w : World) (h : Tz w) : Calls Tryd.prog 58 #[.int .u64 8] w fun e w' => e = .returned (.int .i64 3) ∧ w = w' :=
  tz_at 8 3 7 w rfl (by kernel_rfl) (by decide) (by decide) (by decide) h.c7
set_option maxHeartbeats 1000000 in
theorem lay_1 (v : Int) (w : World) (hv0 : 0 ≤ v) (hv1 : v < 64) (b off len cap : Nat) (cur : List Value) (hlen : 1 ≤ len) (hfit : off + 1 ≤ cur.length)
    (hb : w.heap[b]? = some (.cells cur.toArray 5 (0, 0))) (hT : Tz w) :
    Calls Tryd.prog 52 #[.slice (some ⟨b, off, none⟩) len cap, .int .u64 v] w fun e w' => e = .returned (.int .i64 1) ∧ w.grownBy w' (some b) ∧ w'.heap[b]? = some (.cells (splice cur off ((numB v.toNat).map u8v)).toArray 5 (0, 0)) := by
  have hlt := lt_of_row hb
  go_enter Tryd.func52, Tryd.ntmps52
  go_wp2_with (first | (go_at_call 51; refine (size_any _ _ (by omega)).mono ?_; rintro e w' ⟨rfl, rfl⟩; rw [szOf1 hv1]))
  refine wp_loop_rounds 2 ?_
  iterate 2 (any_goals (rw [rounds_succ]; go_wp2_with fail))
  have hn := hT.n
  have w8 : IntKind.u64.wrap 1 = 1 := rfl
  go_region_with ((go_at_call 58; (try simp only [w8]); refine (tz_1 _ ?_).mono ?_; exact hT.below (by repeat (first | exact Below.refl _ _ | apply Below.drew | refine Below.alloc ?_ hn _)); rintro e w' ⟨rfl, rfl⟩))
  all_goals
    go_wp2_with (with_reducible refine wpList_copy_own rfl (.tmp 34) (.tmp 36) 69 69 rfl 5 Tryd.underlying69 sizeU8 b off len cap ⟨w.heap.size, 0, none⟩ 1 8 rfl rfl cur.toArray 5 ?_ ((numB v.toNat).map u8v) ?_ ?_ ?_ ?_ ?_)
    · exact (Below.heap_alloc w _ b hlt).trans hb
    · simp only [List.length_map]; rw [len_1 hv0 hv1]; exact (Nat.min_eq_left hlen).symm
    · intro j x hj
      rw [← cells_1 v hv0 hv1] at hj
      rw [addHead]
      exact (World.cell?_alloc_new _ _ _ _).trans (getElem?_more hj [.int .u8 0, .int .u8 0, .int .u8 0, .int .u8 0, .int .u8 0, .int .u8 0, .int .u8 0])
    · simp only [List.length_map]; rw [len_1 hv0 hv1]; simpa using hfit
    · exact one_u8v _
    · go_ret
      refine ⟨retI64 (by rw [len_1 hv0 hv1]; rfl), ?_⟩
      rw [splice_spelt]
      exact lay_close hb
set_option maxHeartbeats 1000000 in
theorem lay_2 (v : Int) (w : World) (hv0 : 64 ≤ v) (hv1 : v < 16384) (b off len cap : Nat) (cur : List Value) (hlen : 2 ≤ len) (hfit : off + 2 ≤ cur.length)
    (hb : w.heap[b]? = some (.cells cur.toArray 5 (0, 0))) (hT : Tz w) :
    Calls Tryd.prog 52 #[.slice (some ⟨b, off, none⟩) len cap, .int .u64 v] w fun e w' => e = .returned (.int .i64 2) ∧ w.grownBy w' (some b) ∧ w'.heap[b]? = some (.cells (splice cur off ((numB v.toNat).map u8v)).toArray 5 (0, 0)) := by
  have hlt := lt_of_row hb
  go_enter Tryd.func52, Tryd.ntmps52
  go_wp2_with (first | (go_at_call 51; refine (size_any _ _ (by omega)).mono ?_; rintro e w' ⟨rfl, rfl⟩; rw [szOf2 hv0 hv1]))
  refine wp_loop_rounds 3 ?_
  iterate 3 (any_goals (rw [rounds_succ]; go_wp2_with fail))
  have hn := hT.n
  have w8 : IntKind.u64.wrap 2 = 2 := rfl
  go_region_with ((go_at_call 58; (try simp only [w8]); refine (tz_2 _ ?_).mono ?_; exact hT.below (by repeat (first | exact Below.refl _ _ | apply Below.drew | refine Below.alloc ?_ hn _)); rintro e w' ⟨rfl, rfl⟩))
  all_goals
    go_wp2_with (with_reducible refine wpList_copy_own rfl (.tmp 34) (.tmp 36) 69 69 rfl 5 Tryd.underlying69 sizeU8 b off len cap ⟨w.heap.size, 0, none⟩ 2 8 rfl rfl cur.toArray 5 ?_ ((numB v.toNat).map u8v) ?_ ?_ ?_ ?_ ?_)
    · exact (Below.heap_alloc w _ b hlt).trans hb
    · simp only [List.length_map]; rw [len_2 hv0 hv1]; exact (Nat.min_eq_left hlen).symm
    · intro j x hj
      rw [← cells_2 v hv0 hv1] at hj
      rw [addHead]
      exact (World.cell?_alloc_new _ _ _ _).trans (getElem?_more hj [.int .u8 0, .int .u8 0, .int .u8 0, .int .u8 0, .int .u8 0, .int .u8 0])
    · simp only [List.length_map]; rw [len_2 hv0 hv1]; simpa using hfit
    · exact one_u8v _
    · go_ret
      refine ⟨retI64 (by rw [len_2 hv0 hv1]; rfl), ?_⟩
      rw [splice_spelt]
      exact lay_close hb
set_option maxHeartbeats 1000000 in
theorem lay_4 (v : Int) (w : World) (hv0 : 16384 ≤ v) (hv1 : v < 1073741824) (b off len cap : Nat) (cur : List Value) (hlen : 4 ≤ len) (hfit : off + 4 ≤ cur.length)
    (hb : w.heap[b]? = some (.cells cur.toArray 5 (0, 0))) (hT : Tz w) :
    Calls Tryd.prog 52 #[.slice (some ⟨b, off, none⟩) len cap, .int .u64 v] w fun e w' => e = .returned (.int .i64 4) ∧ w.grownBy w' (some b) ∧ w'.heap[b]? = some (.cells (splice cur off ((numB v.toNat).map u8v)).toArray 5 (0, 0)) := by
  have hlt := lt_of_row hb
  go_enter Tryd.func52, Tryd.ntmps52
  go_wp2_with (first | (go_at_call 51; refine (size_any _ _ (by omega)).mono ?_; rintro e w' ⟨rfl, rfl⟩; rw [szOf4 hv0 hv1]))
  refine wp_loop_rounds 5 ?_
  iterate 5 (any_goals (rw [rounds_succ]; go_wp2_with fail))
  have hn := hT.n
  have w8 : IntKind.u64.wrap 4 = 4 := rfl
  go_region_with ((go_at_call 58; (try simp only [w8]); refine (tz_4 _ ?_).mono ?_; exact hT.below (by repeat (first | exact Below.refl _ _ | apply Below.drew | refine Below.alloc ?_ hn _)); rintro e w' ⟨rfl, rfl⟩))
  all_goals
    go_wp2_with (with_reducible refine wpList_copy_own rfl (.tmp 34) (.tmp 36) 69 69 rfl 5 Tryd.underlying69 sizeU8 b off len cap ⟨w.heap.size, 0, none⟩ 4 8 rfl rfl cur.toArray 5 ?_ ((numB v.toNat).map u8v) ?_ ?_ ?_ ?_ ?_)
    · exact (Below.heap_alloc w _ b hlt).trans hb
    · simp only [List.length_map]; rw [len_4 hv0 hv1]; exact (Nat.min_eq_left hlen).symm
    · intro j x hj
      rw [← cells_4 v hv0 hv1] at hj
      rw [addHead]
      exact (World.cell?_alloc_new _ _ _ _).trans (getElem?_more hj [.int .u8 0, .int .u8 0, .int .u8 0, .int .u8 0])
    · simp only [List.length_map]; rw [len_4 hv0 hv1]; simpa using hfit
    · exact one_u8v _
    · go_ret
      refine ⟨retI64 (by rw [len_4 hv0 hv1]; rfl), ?_⟩
      rw [splice_spelt]
      exact lay_close hb
set_option maxHeartbeats 1000000 in
theorem lay_8 (v : Int) (w : World) (hv0 : 1073741824 ≤ v) (hv1 : v < 4611686018427387904) (b off len cap : Nat) (cur : List Value) (hlen : 8 ≤ len) (hfit : off + 8 ≤ cur.length)
    (hb : w.heap[b]? = some (.cells cur.toArray 5 (0, 0))) (hT : Tz w) :
    Calls Tryd.prog 52 #[.slice (some ⟨b, off, none⟩) len cap, .int .u64 v] w fun e w' => e = .returned (.int .i64 8) ∧ w.grownBy w' (some b) ∧ w'.heap[b]? = some (.cells (splice cur off ((numB v.toNat).map u8v)).toArray 5 (0, 0)) := by
  have hlt := lt_of_row hb
  go_enter Tryd.func52, Tryd.ntmps52
  go_wp2_with (first | (go_at_call 51; refine (size_any _ _ (by omega)).mono ?_; rintro e w' ⟨rfl, rfl⟩; rw [szOf8 hv0 hv1]))
  refine wp_loop_rounds 9 ?_
  iterate 9 (any_goals (rw [rounds_succ]; go_wp2_with fail))
  have hn := hT.n
  have w8 : IntKind.u64.wrap 8 = 8 := rfl
  go_region_with ((go_at_call 58; (try simp only [w8]); refine (tz_8 _ ?_).mono ?_; exact hT.below (by repeat (first | exact Below.refl _ _ | apply Below.drew | refine Below.alloc ?_ hn _)); rintro e w' ⟨rfl, rfl⟩))
  all_goals
    go_wp2_with (with_reducible refine wpList_copy_own rfl (.tmp 34) (.tmp 36) 69 69 rfl 5 Tryd.underlying69 sizeU8 b off len cap ⟨w.heap.size, 0, none⟩ 8 8 rfl rfl cur.toArray 5 ?_ ((numB v.toNat).map u8v) ?_ ?_ ?_ ?_ ?_)
    · exact (Below.heap_alloc w _ b hlt).trans hb
    · simp only [List.length_map]; rw [len_8 hv0 hv1]; exact (Nat.min_eq_left hlen).symm
    · intro j x hj
      rw [← cells_8 v hv0 hv1] at hj
      rw [addHead]
      exact (World.cell?_alloc_new _ _ _ _).trans (getElem?_more hj [])
    · simp only [List.length_map]; rw [len_8 hv0 hv1]; simpa using hfit
    · exact one_u8v _
    · go_ret
      refine ⟨retI64 (by rw [len_8 hv0 hv1]; rfl), ?_⟩
      rw [splice_spelt]
      exact lay_close hb
/-- lay: the number's bytes are laid at the beginning of out. -/
theorem lay_any (v : Int) (w : World) (h0 : 0 ≤ v) (h1 : v < 4611686018427387904) (b off len cap : Nat) (cur : List Value) (hlen : (numB v.toNat).length ≤ len) (hfit : off + (numB v.toNat).length ≤ cur.length)
    (hb : w.heap[b]? = some (.cells cur.toArray 5 (0, 0))) (hT : Tz w) :
    Calls Tryd.prog 52 #[.slice (some ⟨b, off, none⟩) len cap, .int .u64 v] w fun e w' => e = .returned (.int .i64 (numB v.toNat).length) ∧ w.grownBy w' (some b) ∧ w'.heap[b]? = some (.cells (splice cur off ((numB v.toNat).map u8v)).toArray 5 (0, 0)) := by
  by_cases a : v < 64
  · rw [len_1 h0 a] at hlen hfit ⊢; exact lay_1 v w h0 a b off len cap cur hlen hfit hb hT
  by_cases b' : v < 16384
  · rw [len_2 (by omega) b'] at hlen hfit ⊢; exact lay_2 v w (by omega) b' b off len cap cur hlen hfit hb hT
  by_cases c : v < 1073741824
  · rw [len_4 (by omega) c] at hlen hfit ⊢; exact lay_4 v w (by omega) c b off len cap cur hlen hfit hb hT
  · rw [len_8 (by omega) h1] at hlen hfit ⊢; exact lay_8 v w (by omega) h1 b off len cap cur hlen hfit hb hT
end Go.Proofs.YtifdgjmbecilhaaDoor
