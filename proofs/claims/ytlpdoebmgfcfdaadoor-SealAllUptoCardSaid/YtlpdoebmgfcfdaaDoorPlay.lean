/- pack.Num: a number's bytes. -/
import Derived.Test.YtlpdoebmgfcfdaaDoorPsize
import Derived.Laws.CopyOwn
import Derived.Deep.QuietTactic
import Derived.BigQuiet
import Derived.Deep.DeepMust
import Derived.Deep.RegionWith
namespace Go.Proofs.YtlpdoebmgfcfdaaDoor
open Go.RowKit

/-- bits.TrailingZeros at a number whose place in the table is known. -/
theorem tz_at (x k : Int) (i : Nat) (w : World) (h0 : (x == 0) = false) (hi : IntKind.u64.wrap (Go.bits BinOp.and IntKind.u64 x (IntKind.u64.wrap (-x)) * 285870213051353865) / 288230376151711744 = (i : Int)) (hi2 : i < 64)
    (hk : 0 ≤ k) (hk2 : k ≤ 255) (h : w.cell? ⟨1, i, none⟩ = some (.int .u8 k)) :
    Calls Tryd.prog 31 #[.int .u64 x] w fun e w' => e = .returned (.int .i64 k) ∧ w = w' := by
  go_enter Tryd.func31, Tryd.ntmps31
  go_wp2
  go_ret
  exact ⟨rfl, rfl⟩
/-- The table's places that pack reads. -/
structure Tz (w : World) : Prop where
  n : 2 ≤ w.heap.size
  c0 : w.cell? ⟨1, 0, none⟩ = some (.int .u8 0)
  c1 : w.cell? ⟨1, 1, none⟩ = some (.int .u8 1)
  c3 : w.cell? ⟨1, 3, none⟩ = some (.int .u8 2)
  c7 : w.cell? ⟨1, 7, none⟩ = some (.int .u8 3)
theorem Tz.below {w w' : World} (h : Tz w) (hb : Below 2 w w') : Tz w' := by
  refine ⟨Nat.le_trans h.n hb.size, ?_, ?_, ?_, ?_⟩ <;> rw [hb.cell (by show 1 < 2; omega)]
  · exact h.c0
  · exact h.c1
  · exact h.c3
  · exact h.c7
theorem tz_1 (w : World) (h : Tz w) : Calls Tryd.prog 31 #[.int .u64 1] w fun e w' => e = .returned (.int .i64 0) ∧ w = w' :=
  tz_at 1 0 0 w rfl (by kernel_rfl) (by decide) (by decide) (by decide) h.c0
theorem tz_2 (w : World) (h : Tz w) : Calls Tryd.prog 31 #[.int .u64 2] w fun e w' => e = .returned (.int .i64 1) ∧ w = w' :=
  tz_at 2 1 1 w rfl (by kernel_rfl) (by decide) (by decide) (by decide) h.c1
theorem tz_4 (w : World) (h : Tz w) : Calls Tryd.prog 31 #[.int .u64 4] w fun e w' => e = .returned (.int .i64 2) ∧ w = w' :=
  tz_at 4 2 3 w rfl (by kernel_rfl) (by decide) (by decide) (by decide) h.c3
theorem tz_8 (w : World) (h : Tz w) : Calls Tryd.prog 31 #[.int .u64 8] w fun e w' => e = .returned (.int .i64 3) ∧ w = w' :=
  tz_at 8 3 7 w rfl (by kernel_rfl) (by decide) (by decide) (by decide) h.c7
theorem sizeU8 : (Tryd.prog.info? 5).map (·.size) = some 1 := by kernel_rfl
theorem addHead (b j : Nat) : (⟨b, 0, none⟩ : Addr).add j = ⟨b, j, none⟩ := by unfold Addr.add; split <;> simp_all
/-- A byte in a cell. -/
def u8v (c : UInt8) : Value := .int .u8 (c.toNat : Int)
/-- The bytes of a number, most significant first. -/
def beB (n : Nat) (k : Nat) : List UInt8 := (List.range k).map fun i => UInt8.ofNat (n / 256 ^ (k - 1 - i))
def numB (n : Nat) : List UInt8 :=
  if n < 64 then beB n 1 else if n < 16384 then beB (n + 16384) 2 else if n < 1073741824 then beB (n + 2147483648) 4 else beB (n + 13835058055282163712) 8
theorem numB_1 {n : Nat} (h : n < 64) : numB n = beB n 1 := by unfold numB; rw [if_pos h]
theorem numB_2 {n : Nat} (h : 64 ≤ n) (h2 : n < 16384) : numB n = beB (n + 16384) 2 := by unfold numB; rw [if_neg (by omega), if_pos h2]
theorem numB_4 {n : Nat} (h : 16384 ≤ n) (h2 : n < 1073741824) : numB n = beB (n + 2147483648) 4 := by unfold numB; rw [if_neg (by omega), if_neg (by omega), if_pos h2]
theorem numB_8 {n : Nat} (h : 1073741824 ≤ n) : numB n = beB (n + 13835058055282163712) 8 := by unfold numB; rw [if_neg (by omega), if_neg (by omega), if_neg (by omega)]
theorem length_beB (n k : Nat) : (beB n k).length = k := by simp [beB]
theorem u8v_of {x : Int} {n : Nat} (h : x = ((n % 256 : Nat) : Int)) : Value.int .u8 x = u8v (UInt8.ofNat n) := by unfold u8v; rw [h]; simp
theorem or_tag (t : Fin 4) {x : Int} (h0 : 0 ≤ x) (h1 : x < 64) : Go.bits BinOp.or IntKind.u8 x (64 * t.1 : Int) = x + 64 * t.1 := by
  obtain ⟨n, rfl⟩ := Int.eq_ofNat_of_zero_le h0
  have : ∀ (t : Fin 4) (n : Fin 64), Go.bits BinOp.or IntKind.u8 (n.1 : Int) (64 * t.1 : Int) = (n.1 : Int) + 64 * t.1 := by decide +kernel
  exact this t ⟨n, by omega⟩
theorem or0 {x : Int} (h0 : 0 ≤ x) (h1 : x < 64) : Go.bits BinOp.or IntKind.u8 x 0 = x := by simpa using or_tag 0 h0 h1
theorem or64 {x : Int} (h0 : 0 ≤ x) (h1 : x < 64) : Go.bits BinOp.or IntKind.u8 x 64 = x + 64 := or_tag 1 h0 h1
theorem or128 {x : Int} (h0 : 0 ≤ x) (h1 : x < 64) : Go.bits BinOp.or IntKind.u8 x 128 = x + 128 := or_tag 2 h0 h1
theorem or192 {x : Int} (h0 : 0 ≤ x) (h1 : x < 64) : Go.bits BinOp.or IntKind.u8 x 192 = x + 192 := or_tag 3 h0 h1
theorem getElem?_more {L : List Value} {j : Nat} {x : Value} (h : L[j]? = some x) (Z : List Value) : (L ++ Z).toArray[j]? = some x := by
  rw [List.getElem?_toArray, List.getElem?_append_left (List.getElem?_eq_some_iff.1 h).1]; exact h
theorem one_u8v (bs : List UInt8) : ∀ x ∈ bs.map u8v, x.oneCell' = true := by
  intro x hx; obtain ⟨c, _, rfl⟩ := List.mem_map.1 hx; rfl
theorem lt_of_row {w : World} {b : Nat} {o : Obj} (hb : w.heap[b]? = some o) : b < w.heap.size := by
  rcases Nat.lt_or_ge b w.heap.size with h | h
  · exact h
  · rw [Array.getElem?_eq_none h] at hb; cases hb
theorem splice_spelt (cur : List Value) (off : Nat) (bs : List UInt8) : List.take off cur ++ (List.map u8v bs ++ List.drop (off + bs.length) cur) = splice cur off (bs.map u8v) := by simp [splice]
/-- A world behind lay: a new block and the row written. -/
theorem lay_close {w : World} {o : Obj} {b : Nat} {cur X : List Value} {t : TypeId} (hb : w.heap[b]? = some (.cells cur.toArray t (0, 0))) :
    w.grownBy ((w.alloc o).drew.setRow b X.toArray) (some b) ∧ ((w.alloc o).drew.setRow b X.toArray).heap[b]? = some (.cells X.toArray t (0, 0)) := by
  have hb1 : (w.alloc o).drew.heap[b]? = some (.cells cur.toArray t (0, 0)) := (Below.heap_alloc w o b (lt_of_row hb)).trans hb
  refine ⟨⟨rfl, rfl, rfl, by simp [World.setRow], fun k hk hne => ?_⟩, setRow_heap _ b _ _ t _ hb1⟩
  rw [setRow_other _ _ _ _ (by intro e; exact hne (by rw [e]))]
  exact Below.heap_alloc w o k hk
theorem cells_1 (v : Int) (h0 : 0 ≤ v) (h1 : v < 64) :
    ([.int .u8 (Go.bits BinOp.or IntKind.u8 (v) 0)] : List Value) = (numB v.toNat).map u8v := by
  obtain ⟨n, rfl⟩ := Int.eq_ofNat_of_zero_le (show 0 ≤ v by omega)
  rw [or0 (by omega) (by omega), Int.toNat_natCast, numB_1 (by omega)]
  simp only [beB, List.range_succ, List.range_zero, List.nil_append, List.map_cons, List.map_nil, Nat.reduceSub, Nat.reducePow, Nat.div_one]
  congr 1; exact u8v_of (by omega)
theorem len_1 {v : Int} (h0 : 0 ≤ v) (h1 : v < 64) : (numB v.toNat).length = 1 := by rw [numB_1 (by omega), length_beB]
set_option maxHeartbeats 1000000 in
theorem lay_1 (v : Int) (w : World) (hv0 : 0 ≤ v) (hv1 : v < 64) (b off len cap : Nat) (cur : List Value) (hlen : 1 ≤ len) (hfit : off + 1 ≤ cur.length)
    (hb : w.heap[b]? = some (.cells cur.toArray 5 (0, 0))) (hT : Tz w) :
    Calls Tryd.prog 29 #[.slice (some ⟨b, off, none⟩) len cap, .int .u64 v] w fun e w' => e = .returned (.int .i64 1) ∧ w.grownBy w' (some b) ∧ w'.heap[b]? = some (.cells (splice cur off ((numB v.toNat).map u8v)).toArray 5 (0, 0)) := by
  have hlt := lt_of_row hb
  go_enter Tryd.func29, Tryd.ntmps29
  go_wp2_with (first | (go_at_call 22; refine (size_any _ _ (by omega)).mono ?_; rintro e w' ⟨rfl, rfl⟩; rw [szOf1 hv1]))
  refine wp_loop_rounds 2 ?_
  iterate 2 (any_goals (rw [rounds_succ]; go_wp2_with fail))
  have hn := hT.n
  have w8 : IntKind.u64.wrap 1 = 1 := rfl
  go_region_with ((go_at_call 31; (try simp only [w8]); refine (tz_1 _ ?_).mono ?_; exact hT.below (by repeat (first | exact Below.refl _ _ | apply Below.drew | refine Below.alloc ?_ hn _)); rintro e w' ⟨rfl, rfl⟩))
  all_goals
    go_wp2_with (with_reducible refine wpList_copy_own rfl (.tmp 34) (.tmp 36) 44 44 rfl 5 Tryd.underlying44 sizeU8 b off len cap ⟨w.heap.size, 0, none⟩ 1 8 rfl rfl cur.toArray 5 ?_ ((numB v.toNat).map u8v) ?_ ?_ ?_ ?_ ?_)
    · exact (Below.heap_alloc w _ b hlt).trans hb
    · simp only [List.length_map]; rw [len_1 hv0 hv1]; exact (Nat.min_eq_left hlen).symm
    · intro j x hj
      rw [← cells_1 v hv0 hv1] at hj
      rw [addHead]
      exact (World.cell?_alloc_new _ _ _ _).trans (getElem?_more hj [.int .u8 0, .int .u8 0, .int .u8 0, .int .u8 0, .int .u8 0, .int .u8 0, .int .u8 0])
    · simp only [List.length_map]; rw [len_1 hv0 hv1]; simpa using hfit
    · exact one_u8v _
    · go_ret
      refine ⟨retI64 (by rw [len_1 hv0 hv1]; rfl), ?_⟩
      rw [splice_spelt]
      exact lay_close hb
theorem cells_2 (v : Int) (h0 : 64 ≤ v) (h1 : v < 16384) :
    ([.int .u8 (Go.bits BinOp.or IntKind.u8 (v / 256) 64), .int .u8 (v % 256)] : List Value) = (numB v.toNat).map u8v := by
  obtain ⟨n, rfl⟩ := Int.eq_ofNat_of_zero_le (show 0 ≤ v by omega)
  rw [or64 (by omega) (by omega), Int.toNat_natCast, numB_2 (by omega) (by omega)]
  simp only [beB, List.range_succ, List.range_zero, List.nil_append, List.cons_append, List.map_cons, List.map_nil, Nat.reduceSub, Nat.reducePow, Nat.div_one]
  congr 1; exact u8v_of (by omega)
  congr 1; exact u8v_of (by omega)
theorem len_2 {v : Int} (h0 : 64 ≤ v) (h1 : v < 16384) : (numB v.toNat).length = 2 := by rw [numB_2 (by omega) (by omega), length_beB]
set_option maxHeartbeats 1000000 in
theorem lay_2 (v : Int) (w : World) (hv0 : 64 ≤ v) (hv1 : v < 16384) (b off len cap : Nat) (cur : List Value) (hlen : 2 ≤ len) (hfit : off + 2 ≤ cur.length)
    (hb : w.heap[b]? = some (.cells cur.toArray 5 (0, 0))) (hT : Tz w) :
    Calls Tryd.prog 29 #[.slice (some ⟨b, off, none⟩) len cap, .int .u64 v] w fun e w' => e = .returned (.int .i64 2) ∧ w.grownBy w' (some b) ∧ w'.heap[b]? = some (.cells (splice cur off ((numB v.toNat).map u8v)).toArray 5 (0, 0)) := by
  have hlt := lt_of_row hb
  go_enter Tryd.func29, Tryd.ntmps29
  go_wp2_with (first | (go_at_call 22; refine (size_any _ _ (by omega)).mono ?_; rintro e w' ⟨rfl, rfl⟩; rw [szOf2 hv0 hv1]))
  refine wp_loop_rounds 3 ?_
  iterate 3 (any_goals (rw [rounds_succ]; go_wp2_with fail))
  have hn := hT.n
  have w8 : IntKind.u64.wrap 2 = 2 := rfl
  go_region_with ((go_at_call 31; (try simp only [w8]); refine (tz_2 _ ?_).mono ?_; exact hT.below (by repeat (first | exact Below.refl _ _ | apply Below.drew | refine Below.alloc ?_ hn _)); rintro e w' ⟨rfl, rfl⟩))
  all_goals
    go_wp2_with (with_reducible refine wpList_copy_own rfl (.tmp 34) (.tmp 36) 44 44 rfl 5 Tryd.underlying44 sizeU8 b off len cap ⟨w.heap.size, 0, none⟩ 2 8 rfl rfl cur.toArray 5 ?_ ((numB v.toNat).map u8v) ?_ ?_ ?_ ?_ ?_)
    · exact (Below.heap_alloc w _ b hlt).trans hb
    · simp only [List.length_map]; rw [len_2 hv0 hv1]; exact (Nat.min_eq_left hlen).symm
    · intro j x hj
      rw [← cells_2 v hv0 hv1] at hj
      rw [addHead]
      exact (World.cell?_alloc_new _ _ _ _).trans (getElem?_more hj [.int .u8 0, .int .u8 0, .int .u8 0, .int .u8 0, .int .u8 0, .int .u8 0])
    · simp only [List.length_map]; rw [len_2 hv0 hv1]; simpa using hfit
    · exact one_u8v _
    · go_ret
      refine ⟨retI64 (by rw [len_2 hv0 hv1]; rfl), ?_⟩
      rw [splice_spelt]
      exact lay_close hb
theorem cells_4 (v : Int) (h0 : 16384 ≤ v) (h1 : v < 1073741824) :
    ([.int .u8 (Go.bits BinOp.or IntKind.u8 (v / 16777216) 128), .int .u8 (v / 65536 % 256), .int .u8 (v / 256 % 256), .int .u8 (v % 256)] : List Value) = (numB v.toNat).map u8v := by
  obtain ⟨n, rfl⟩ := Int.eq_ofNat_of_zero_le (show 0 ≤ v by omega)
  rw [or128 (by omega) (by omega), Int.toNat_natCast, numB_4 (by omega) (by omega)]
  simp only [beB, List.range_succ, List.range_zero, List.nil_append, List.cons_append, List.map_cons, List.map_nil, Nat.reduceSub, Nat.reducePow, Nat.div_one]
  congr 1; exact u8v_of (by omega)
  congr 1; exact u8v_of (by omega)
  congr 1; exact u8v_of (by omega)
  congr 1; exact u8v_of (by omega)
theorem len_4 {v : Int} (h0 : 16384 ≤ v) (h1 : v < 1073741824) : (numB v.toNat).length = 4 := by rw [numB_4 (by omega) (by omega), length_beB]
set_option maxHeartbeats 1000000 in
theorem lay_4 (v : Int) (w : World) (hv0 : 16384 ≤ v) (hv1 : v < 1073741824) (b off len cap : Nat) (cur : List Value) (hlen : 4 ≤ len) (hfit : off + 4 ≤ cur.length)
    (hb : w.heap[b]? = some (.cells cur.toArray 5 (0, 0))) (hT : Tz w) :
    Calls Tryd.prog 29 #[.slice (some ⟨b, off, none⟩) len cap, .int .u64 v] w fun e w' => e = .returned (.int .i64 4) ∧ w.grownBy w' (some b) ∧ w'.heap[b]? = some (.cells (splice cur off ((numB v.toNat).map u8v)).toArray 5 (0, 0)) := by
  have hlt := lt_of_row hb
  go_enter Tryd.func29, Tryd.ntmps29
  go_wp2_with (first | (go_at_call 22; refine (size_any _ _ (by omega)).mono ?_; rintro e w' ⟨rfl, rfl⟩; rw [szOf4 hv0 hv1]))
  refine wp_loop_rounds 5 ?_
  iterate 5 (any_goals (rw [rounds_succ]; go_wp2_with fail))
  have hn := hT.n
  have w8 : IntKind.u64.wrap 4 = 4 := rfl
  go_region_with ((go_at_call 31; (try simp only [w8]); refine (tz_4 _ ?_).mono ?_; exact hT.below (by repeat (first | exact Below.refl _ _ | apply Below.drew | refine Below.alloc ?_ hn _)); rintro e w' ⟨rfl, rfl⟩))
  all_goals
    go_wp2_with (with_reducible refine wpList_copy_own rfl (.tmp 34) (.tmp 36) 44 44 rfl 5 Tryd.underlying44 sizeU8 b off len cap ⟨w.heap.size, 0, none⟩ 4 8 rfl rfl cur.toArray 5 ?_ ((numB v.toNat).map u8v) ?_ ?_ ?_ ?_ ?_)
    · exact (Below.heap_alloc w _ b hlt).trans hb
    · simp only [List.length_map]; rw [len_4 hv0 hv1]; exact (Nat.min_eq_left hlen).symm
    · intro j x hj
      rw [← cells_4 v hv0 hv1] at hj
      rw [addHead]
      exact (World.cell?_alloc_new _ _ _ _).trans (getElem?_more hj [.int .u8 0, .int .u8 0, .int .u8 0, .int .u8 0])
    · simp only [List.length_map]; rw [len_4 hv0 hv1]; simpa using hfit
    · exact one_u8v _
    · go_ret
      refine ⟨retI64 (by rw [len_4 hv0 hv1]; rfl), ?_⟩
      rw [splice_spelt]
      exact lay_close hb
theorem cells_8 (v : Int) (h0 : 1073741824 ≤ v) (h1 : v < 4611686018427387904) :
    ([.int .u8 (Go.bits BinOp.or IntKind.u8 (v / 72057594037927936) 192), .int .u8 (v / 281474976710656 % 256), .int .u8 (v / 1099511627776 % 256), .int .u8 (v / 4294967296 % 256), .int .u8 (v / 16777216 % 256), .int .u8 (v / 65536 % 256), .int .u8 (v / 256 % 256), .int .u8 (v % 256)] : List Value) = (numB v.toNat).map u8v := by
  obtain ⟨n, rfl⟩ := Int.eq_ofNat_of_zero_le (show 0 ≤ v by omega)
  rw [or192 (by omega) (by omega), Int.toNat_natCast, numB_8 (by omega)]
  simp only [beB, List.range_succ, List.range_zero, List.nil_append, List.cons_append, List.map_cons, List.map_nil, Nat.reduceSub, Nat.reducePow, Nat.div_one]
  congr 1; exact u8v_of (by omega)
  congr 1; exact u8v_of (by omega)
  congr 1; exact u8v_of (by omega)
  congr 1; exact u8v_of (by omega)
  congr 1; exact u8v_of (by omega)
  congr 1; exact u8v_of (by omega)
  congr 1; exact u8v_of (by omega)
  congr 1; exact u8v_of (by omega)
theorem len_8 {v : Int} (h0 : 1073741824 ≤ v) (h1 : v < 4611686018427387904) : (numB v.toNat).length = 8 := by rw [numB_8 (by omega), length_beB]
set_option maxHeartbeats 1000000 in
theorem lay_8 (v : Int) (w : World) (hv0 : 1073741824 ≤ v) (hv1 : v < 4611686018427387904) (b off len cap : Nat) (cur : List Value) (hlen : 8 ≤ len) (hfit : off + 8 ≤ cur.length)
    (hb : w.heap[b]? = some (.cells cur.toArray 5 (0, 0))) (hT : Tz w) :
    Calls Tryd.prog 29 #[.slice (some ⟨b, off, none⟩) len cap, .int .u64 v] w fun e w' => e = .returned (.int .i64 8) ∧ w.grownBy w' (some b) ∧ w'.heap[b]? = some (.cells (splice cur off ((numB v.toNat).map u8v)).toArray 5 (0, 0)) := by
  have hlt := lt_of_row hb
  go_enter Tryd.func29, Tryd.ntmps29
  go_wp2_with (first | (go_at_call 22; refine (size_any _ _ (by omega)).mono ?_; rintro e w' ⟨rfl, rfl⟩; rw [szOf8 hv0 hv1]))
  refine wp_loop_rounds 9 ?_
  iterate 9 (any_goals (rw [rounds_succ]; go_wp2_with fail))
  have hn := hT.n
  have w8 : IntKind.u64.wrap 8 = 8 := rfl
  go_region_with ((go_at_call 31; (try simp only [w8]); refine (tz_8 _ ?_).mono ?_; exact hT.below (by repeat (first | exact Below.refl _ _ | apply Below.drew | refine Below.alloc ?_ hn _)); rintro e w' ⟨rfl, rfl⟩))
  all_goals
    go_wp2_with (with_reducible refine wpList_copy_own rfl (.tmp 34) (.tmp 36) 44 44 rfl 5 Tryd.underlying44 sizeU8 b off len cap ⟨w.heap.size, 0, none⟩ 8 8 rfl rfl cur.toArray 5 ?_ ((numB v.toNat).map u8v) ?_ ?_ ?_ ?_ ?_)
    · exact (Below.heap_alloc w _ b hlt).trans hb
    · simp only [List.length_map]; rw [len_8 hv0 hv1]; exact (Nat.min_eq_left hlen).symm
    · intro j x hj
      rw [← cells_8 v hv0 hv1] at hj
      rw [addHead]
      exact (World.cell?_alloc_new _ _ _ _).trans (getElem?_more hj [])
    · simp only [List.length_map]; rw [len_8 hv0 hv1]; simpa using hfit
    · exact one_u8v _
    · go_ret
      refine ⟨retI64 (by rw [len_8 hv0 hv1]; rfl), ?_⟩
      rw [splice_spelt]
      exact lay_close hb
/-- What the bytes of a number are: as many as its size says. -/
theorem numB_len (v : Int) (h0 : 0 ≤ v) (h1 : v < 4611686018427387904) : ((numB v.toNat).length : Int) = szOf v := by
  by_cases a : v < 64
  · rw [len_1 h0 a, szOf1 a]; rfl
  by_cases b : v < 16384
  · rw [len_2 (by omega) b, szOf2 (by omega) b]; rfl
  by_cases c : v < 1073741824
  · rw [len_4 (by omega) c, szOf4 (by omega) c]; rfl
  · rw [len_8 (by omega) h1, szOf8 (by omega) h1]; rfl
/-- lay: the number's bytes are laid at the beginning of out. -/
theorem lay_any (v : Int) (w : World) (h0 : 0 ≤ v) (h1 : v < 4611686018427387904) (b off len cap : Nat) (cur : List Value) (hlen : (numB v.toNat).length ≤ len) (hfit : off + (numB v.toNat).length ≤ cur.length)
    (hb : w.heap[b]? = some (.cells cur.toArray 5 (0, 0))) (hT : Tz w) :
    Calls Tryd.prog 29 #[.slice (some ⟨b, off, none⟩) len cap, .int .u64 v] w fun e w' => e = .returned (.int .i64 (numB v.toNat).length) ∧ w.grownBy w' (some b) ∧ w'.heap[b]? = some (.cells (splice cur off ((numB v.toNat).map u8v)).toArray 5 (0, 0)) := by
  by_cases a : v < 64
  · rw [len_1 h0 a] at hlen hfit ⊢; exact lay_1 v w h0 a b off len cap cur hlen hfit hb hT
  by_cases b' : v < 16384
  · rw [len_2 (by omega) b'] at hlen hfit ⊢; exact lay_2 v w (by omega) b' b off len cap cur hlen hfit hb hT
  by_cases c : v < 1073741824
  · rw [len_4 (by omega) c] at hlen hfit ⊢; exact lay_4 v w (by omega) c b off len cap cur hlen hfit hb hT
  · rw [len_8 (by omega) h1] at hlen hfit ⊢; exact lay_8 v w (by omega) h1 b off len cap cur hlen hfit hb hT
end Go.Proofs.YtlpdoebmgfcfdaaDoor
