/- Bytes of numbers, in plain words; rows of bytes; what the listed tables give. -/
import Derived.Test.YtifdgjmbecilhaaDoorPsize
import Derived.Laws.CopyOwn
import Derived.Deep.QuietTactic
import Derived.BigQuiet
import Derived.Deep.DeepMust
import Derived.Deep.RegionWith
namespace Go.Proofs.YtifdgjmbecilhaaDoor
open Go.RowKit

/-- The table's places that pack reads. -/
structure Tz (w : World) : Prop where
  n : 2 ≤ w.heap.size
  c0 : w.cell? ⟨1, 0, none⟩ = some (.int .u8 0)
  c1 : w.cell? ⟨1, 1, none⟩ = some (.int .u8 1)
  c3 : w.cell? ⟨1, 3, none⟩ = some (.int .u8 2)
  c7 : w.cell? ⟨1, 7, none⟩ = some (.int .u8 3)
theorem Tz.below {w w' : World} (h : Tz w) (hb : Below 2 w w') : Tz w' := by
  refine ⟨Nat.le_trans h.n hb.size, ?_, ?_, ?_, ?_⟩ <;> rw [hb.cell (by show 1 < 2; omega)]
  · exact h.c0
  · exact h.c1
  · exact h.c3
  · exact h.c7
theorem sizeU8 : (Tryd.prog.info? 5).map (·.size) = some 1 := by kernel_rfl
theorem addHead (b j : Nat) : (⟨b, 0, none⟩ : Addr).add j = ⟨b, j, none⟩ := by unfold Addr.add; split <;> simp_all
/-- A byte in a cell. -/
def u8v (c : UInt8) : Value := .int .u8 (c.toNat : Int)
/-- The bytes of a number, most significant first. -/
def beB (n : Nat) (k : Nat) : List UInt8 := (List.range k).map fun i => UInt8.ofNat (n / 256 ^ (k - 1 - i))
def numB (n : Nat) : List UInt8 :=
  if n < 64 then beB n 1 else if n < 16384 then beB (n + 16384) 2 else if n < 1073741824 then beB (n + 2147483648) 4 else beB (n + 13835058055282163712) 8
theorem numB_1 {n : Nat} (h : n < 64) : numB n = beB n 1 := by unfold numB; rw [if_pos h]
theorem numB_2 {n : Nat} (h : 64 ≤ n) (h2 : n < 16384) : numB n = beB (n + 16384) 2 := by unfold numB; rw [if_neg (by omega), if_pos h2]
theorem numB_4 {n : Nat} (h : 16384 ≤ n) (h2 : n < 1073741824) : numB n = beB (n + 2147483648) 4 := by unfold numB; rw [if_neg (by omega), if_neg (by omega), if_pos h2]
theorem numB_8 {n : Nat} (h : 1073741824 ≤ n) : numB n = beB (n + 13835058055282163712) 8 := by unfold numB; rw [if_neg (by omega), if_neg (by omega), if_neg (by omega)]
theorem length_beB (n k : Nat) : (beB n k).length = k := by simp [beB]
theorem u8v_of {x : Int} {n : Nat} (h : x = ((n % 256 : Nat) : Int)) : Value.int .u8 x = u8v (UInt8.ofNat n) := by unfold u8v; rw [h]; simp
theorem or_tag (t : Fin 4) {x : Int} (h0 : 0 ≤ x) (h1 : x < 64) : Go.bits BinOp.or IntKind.u8 x (64 * t.1 : Int) = x + 64 * t.1 := by
  obtain ⟨n, rfl⟩ := Int.eq_ofNat_of_zero_le h0
  have : ∀ (t : Fin 4) (n : Fin 64), Go.bits BinOp.or IntKind.u8 (n.1 : Int) (64 * t.1 : Int) = (n.1 : Int) + 64 * t.1 := by decide +kernel
  exact this t ⟨n, by omega⟩
theorem or0 {x : Int} (h0 : 0 ≤ x) (h1 : x < 64) : Go.bits BinOp.or IntKind.u8 x 0 = x := by simpa using or_tag 0 h0 h1
theorem or64 {x : Int} (h0 : 0 ≤ x) (h1 : x < 64) : Go.bits BinOp.or IntKind.u8 x 64 = x + 64 := or_tag 1 h0 h1
theorem or128 {x : Int} (h0 : 0 ≤ x) (h1 : x < 64) : Go.bits BinOp.or IntKind.u8 x 128 = x + 128 := or_tag 2 h0 h1
theorem or192 {x : Int} (h0 : 0 ≤ x) (h1 : x < 64) : Go.bits BinOp.or IntKind.u8 x 192 = x + 192 := or_tag 3 h0 h1
theorem getElem?_more {L : List Value} {j : Nat} {x : Value} (h : L[j]? = some x) (Z : List Value) : (L ++ Z).toArray[j]? = some x := by
  rw [List.getElem?_toArray, List.getElem?_append_left (List.getElem?_eq_some_iff.1 h).1]; exact h
theorem one_u8v (bs : List UInt8) : ∀ x ∈ bs.map u8v, x.oneCell' = true := by
  intro x hx; obtain ⟨c, _, rfl⟩ := List.mem_map.1 hx; rfl
theorem lt_of_row {w : World} {b : Nat} {o : Obj} (hb : w.heap[b]? = some o) : b < w.heap.size := by
  rcases Nat.lt_or_ge b w.heap.size with h | h
  · exact h
  · rw [Array.getElem?_eq_none h] at hb; cases hb
theorem splice_spelt (cur : List Value) (off : Nat) (bs : List UInt8) : List.take off cur ++ (List.map u8v bs ++ List.drop (off + bs.length) cur) = splice cur off (bs.map u8v) := by simp [splice]
/-- A world behind lay: a new block and the row written. -/
theorem lay_close {w : World} {o : Obj} {b : Nat} {cur X : List Value} {t : TypeId} (hb : w.heap[b]? = some (.cells cur.toArray t (0, 0))) :
    w.grownBy ((w.alloc o).drew.setRow b X.toArray) (some b) ∧ ((w.alloc o).drew.setRow b X.toArray).heap[b]? = some (.cells X.toArray t (0, 0)) := by
  have hb1 : (w.alloc o).drew.heap[b]? = some (.cells cur.toArray t (0, 0)) := (Below.heap_alloc w o b (lt_of_row hb)).trans hb
  refine ⟨⟨rfl, rfl, rfl, by simp [World.setRow], fun k hk hne => ?_⟩, setRow_heap _ b _ _ t _ hb1⟩
  rw [setRow_other _ _ _ _ (by intro e; exact hne (by rw [e]))]
  exact Below.heap_alloc w o k hk
theorem cells_1 (v : Int) (h0 : 0 ≤ v) (h1 : v < 64) :
    ([.int .u8 (Go.bits BinOp.or IntKind.u8 (v) 0)] : List Value) = (numB v.toNat).map u8v := by
  obtain ⟨n, rfl⟩ := Int.eq_ofNat_of_zero_le (show 0 ≤ v by omega)
  rw [or0 (by omega) (by omega), Int.toNat_natCast, numB_1 (by omega)]
  simp only [beB, List.range_succ, List.range_zero, List.nil_append, List.map_cons, List.map_nil, Nat.reduceSub, Nat.reducePow, Nat.div_one]
  congr 1; exact u8v_of (by omega)
theorem len_1 {v : Int} (h0 : 0 ≤ v) (h1 : v < 64) : (numB v.toNat).length = 1 := by rw [numB_1 (by omega), length_beB]
theorem cells_2 (v : Int) (h0 : 64 ≤ v) (h1 : v < 16384) :
    ([.int .u8 (Go.bits BinOp.or IntKind.u8 (v / 256) 64), .int .u8 (v % 256)] : List Value) = (numB v.toNat).map u8v := by
  obtain ⟨n, rfl⟩ := Int.eq_ofNat_of_zero_le (show 0 ≤ v by omega)
  rw [or64 (by omega) (by omega), Int.toNat_natCast, numB_2 (by omega) (by omega)]
  simp only [beB, List.range_succ, List.range_zero, List.nil_append, List.cons_append, List.map_cons, List.map_nil, Nat.reduceSub, Nat.reducePow, Nat.div_one]
  congr 1; exact u8v_of (by omega)
  congr 1; exact u8v_of (by omega)
theorem len_2 {v : Int} (h0 : 64 ≤ v) (h1 : v < 16384) : (numB v.toNat).length = 2 := by rw [numB_2 (by omega) (by omega), length_beB]
theorem cells_4 (v : Int) (h0 : 16384 ≤ v) (h1 : v < 1073741824) :
    ([.int .u8 (Go.bits BinOp.or IntKind.u8 (v / 16777216) 128), .int .u8 (v / 65536 % 256), .int .u8 (v / 256 % 256), .int .u8 (v % 256)] : List Value) = (numB v.toNat).map u8v := by
  obtain ⟨n, rfl⟩ := Int.eq_ofNat_of_zero_le (show 0 ≤ v by omega)
  rw [or128 (by omega) (by omega), Int.toNat_natCast, numB_4 (by omega) (by omega)]
  simp only [beB, List.range_succ, List.range_zero, List.nil_append, List.cons_append, List.map_cons, List.map_nil, Nat.reduceSub, Nat.reducePow, Nat.div_one]
  congr 1; exact u8v_of (by omega)
  congr 1; exact u8v_of (by omega)
  congr 1; exact u8v_of (by omega)
  congr 1; exact u8v_of (by omega)
theorem len_4 {v : Int} (h0 : 16384 ≤ v) (h1 : v < 1073741824) : (numB v.toNat).length = 4 := by rw [numB_4 (by omega) (by omega), length_beB]
theorem cells_8 (v : Int) (h0 : 1073741824 ≤ v) (h1 : v < 4611686018427387904) :
    ([.int .u8 (Go.bits BinOp.or IntKind.u8 (v / 72057594037927936) 192), .int .u8 (v / 281474976710656 % 256), .int .u8 (v / 1099511627776 % 256), .int .u8 (v / 4294967296 % 256), .int .u8 (v / 16777216 % 256), .int .u8 (v / 65536 % 256), .int .u8 (v / 256 % 256), .int .u8 (v % 256)] : List Value) = (numB v.toNat).map u8v := by
  obtain ⟨n, rfl⟩ := Int.eq_ofNat_of_zero_le (show 0 ≤ v by omega)
  rw [or192 (by omega) (by omega), Int.toNat_natCast, numB_8 (by omega)]
  simp only [beB, List.range_succ, List.range_zero, List.nil_append, List.cons_append, List.map_cons, List.map_nil, Nat.reduceSub, Nat.reducePow, Nat.div_one]
  congr 1; exact u8v_of (by omega)
  congr 1; exact u8v_of (by omega)
  congr 1; exact u8v_of (by omega)
  congr 1; exact u8v_of (by omega)
  congr 1; exact u8v_of (by omega)
  congr 1; exact u8v_of (by omega)
  congr 1; exact u8v_of (by omega)
  congr 1; exact u8v_of (by omega)
theorem len_8 {v : Int} (h0 : 1073741824 ≤ v) (h1 : v < 4611686018427387904) : (numB v.toNat).length = 8 := by rw [numB_8 (by omega), length_beB]
/-- What the bytes of a number are: as many as its size says. -/
theorem numB_len (v : Int) (h0 : 0 ≤ v) (h1 : v < 4611686018427387904) : ((numB v.toNat).length : Int) = szOf v := by
  by_cases a : v < 64
  · rw [len_1 h0 a, szOf1 a]; rfl
  by_cases b : v < 16384
  · rw [len_2 (by omega) b, szOf2 (by omega) b]; rfl
  by_cases c : v < 1073741824
  · rw [len_4 (by omega) c, szOf4 (by omega) c]; rfl
  · rw [len_8 (by omega) h1, szOf8 (by omega) h1]; rfl
end Go.Proofs.YtifdgjmbecilhaaDoor
