/- pack.Size and its reference: how many bytes a number has. Contracts for every number of 64 bits. -/
import Derived.Test.YtdcpiaoadbbdoaaGreatBulk
import Derived.Test.YtdcpiaoadbbdoaaGreatRows
import Derived.WalkKit
import Derived.WalkSpells
import Derived.WalkLawsBesides
import Derived.Lib.Hide
import Derived.Laws.CopyOwn
import Derived.Deep.QuietTactic
import Derived.BigQuiet
import Derived.Deep.DeepMust
import Derived.Deep.RegionWith
import Derived.Deep.Draws
import Derived.Laws.BytesArg
set_option maxRecDepth 100000
set_option maxHeartbeats 16000000
namespace Go.Proofs.YtdcpiaoadbbdoaaGreat
open Go.RowKit

def szOf (v : Int) : Int := if v < 64 then 1 else if v < 16384 then 2 else if v < 1073741824 then 4 else if v < 4611686018427387904 then 8 else 0
theorem szOf1 {v : Int} (h : v < 64) : szOf v = 1 := by unfold szOf; rw [if_pos h]
theorem szOf2 {v : Int} (h : 64 ≤ v) (h2 : v < 16384) : szOf v = 2 := by unfold szOf; rw [if_neg (by omega), if_pos h2]
theorem szOf4 {v : Int} (h : 16384 ≤ v) (h2 : v < 1073741824) : szOf v = 4 := by unfold szOf; rw [if_neg (by omega), if_neg (by omega), if_pos h2]
theorem szOf8 {v : Int} (h : 1073741824 ≤ v) (h2 : v < 4611686018427387904) : szOf v = 8 := by unfold szOf; rw [if_neg (by omega), if_neg (by omega), if_neg (by omega), if_pos h2]
theorem szOf0 {v : Int} (h : 4611686018427387904 ≤ v) : szOf v = 0 := by unfold szOf; rw [if_neg (by omega), if_neg (by omega), if_neg (by omega), if_neg (by omega)]
theorem retI64 {a b : Int} (h : a = b) : Ending.returned (.int .i64 a) = .returned (.int .i64 b) := by rw [h]

theorem div_t {v c : Int} (h : (v / c == 0) = true) (_h0 : 0 ≤ v) (hc : 0 < c) : v < c := by
 have h1 : v / c = 0 := by simpa using h
 have := Int.lt_ediv_add_one_mul_self v hc; rw [h1] at this; omega
theorem div_f {v c : Int} (h : (v / c == 0) = false) (h0 : 0 ≤ v) (_hc : 0 < c) : c ≤ v := by
 have h1 : v / c ≠ 0 := by simpa using h
 exact Int.not_lt.1 fun hl => h1 (Int.ediv_eq_zero_of_lt h0 hl)
theorem size_any (v : Int) (w : World) (h0 : 0 ≤ v) :
 Calls Tryz.prog 161 #[.int .u64 v] w fun e w' => e = .returned (.int .i64 (szOf v)) ∧ w = w' := by
 go_enter Tryz.func161, Tryz.ntmps161
 go_wp2
 refine wp_loop_rounds 5 ?_
 iterate 5 (any_goals (rw [rounds_succ]; go_wp2))
 all_goals go_ret
 · exact ⟨retI64 (szOf1 (div_t ‹(v / 64 == 0) = true› h0 (by decide))).symm, rfl⟩
 · exact ⟨retI64 (szOf2 (div_f ‹(v / 64 == 0) = false› h0 (by decide)) (div_t ‹(v / 16384 == 0) = true› h0 (by decide))).symm, rfl⟩
 · exact ⟨retI64 (szOf4 (div_f ‹(v / 16384 == 0) = false› h0 (by decide)) (div_t ‹(v / 1073741824 == 0) = true› h0 (by decide))).symm, rfl⟩
 · exact ⟨retI64 (szOf8 (div_f ‹(v / 1073741824 == 0) = false› h0 (by decide)) (div_t ‹(v / 4611686018427387904 == 0) = true› h0 (by decide))).symm, rfl⟩
 · exact ⟨retI64 (szOf0 (div_f ‹(v / 4611686018427387904 == 0) = false› h0 (by decide))).symm, rfl⟩

structure Tz (w : World) : Prop where
 n : 2 ≤ w.heap.size
 c0 : w.cell? ⟨1, 0, none⟩ = some (.int .u8 0)
 c1 : w.cell? ⟨1, 1, none⟩ = some (.int .u8 1)
 c3 : w.cell? ⟨1, 3, none⟩ = some (.int .u8 2)
 c7 : w.cell? ⟨1, 7, none⟩ = some (.int .u8 3)
theorem Tz.below {w w' : World} (h : Tz w) (hb : Below 2 w w') : Tz w' := by
 refine ⟨Nat.le_trans h.n hb.size, ?_, ?_, ?_, ?_⟩ <;> rw [hb.cell (by show 1 < 2; omega)]
 · exact h.c0
 · exact h.c1
 · exact h.c3
 · exact h.c7
theorem sizeU8 : (Tryz.prog.info? 5).map (·.size) = some 1 := by kernel_rfl
theorem addHead (b j : Nat) : (⟨b, 0, none⟩ : Addr).add j = ⟨b, j, none⟩ := by unfold Addr.add; split <;> simp_all
def u8v (c : UInt8) : Value := .int .u8 (c.toNat : Int)
def beB (n : Nat) (k : Nat) : List UInt8 := (List.range k).map fun i => UInt8.ofNat (n / 256 ^ (k - 1 - i))
def numB (n : Nat) : List UInt8 :=
 if n < 64 then beB n 1 else if n < 16384 then beB (n + 16384) 2 else if n < 1073741824 then beB (n + 2147483648) 4 else beB (n + 13835058055282163712) 8
theorem numB_1 {n : Nat} (h : n < 64) : numB n = beB n 1 := by unfold numB; rw [if_pos h]
theorem numB_2 {n : Nat} (h : 64 ≤ n) (h2 : n < 16384) : numB n = beB (n + 16384) 2 := by unfold numB; rw [if_neg (by omega), if_pos h2]
theorem numB_4 {n : Nat} (h : 16384 ≤ n) (h2 : n < 1073741824) : numB n = beB (n + 2147483648) 4 := by unfold numB; rw [if_neg (by omega), if_neg (by omega), if_pos h2]
theorem numB_8 {n : Nat} (h : 1073741824 ≤ n) : numB n = beB (n + 13835058055282163712) 8 := by unfold numB; rw [if_neg (by omega), if_neg (by omega), if_neg (by omega)]
theorem length_beB (n k : Nat) : (beB n k).length = k := by simp [beB]
theorem u8v_of {x : Int} {n : Nat} (h : x = ((n % 256 : Nat) : Int)) : Value.int .u8 x = u8v (UInt8.ofNat n) := by unfold u8v; rw [h]; simp
theorem or_tag (t : Fin 4) {x : Int} (h0 : 0 ≤ x) (h1 : x < 64) : Go.bits BinOp.or IntKind.u8 x (64 * t.1 : Int) = x + 64 * t.1 := by
 obtain ⟨n, rfl⟩ := Int.eq_ofNat_of_zero_le h0
 have : ∀ (t : Fin 4) (n : Fin 64), Go.bits BinOp.or IntKind.u8 (n.1 : Int) (64 * t.1 : Int) = (n.1 : Int) + 64 * t.1 := by decide +kernel
 exact this t ⟨n, by omega⟩
theorem or0 {x : Int} (h0 : 0 ≤ x) (h1 : x < 64) : Go.bits BinOp.or IntKind.u8 x 0 = x := by simpa using or_tag 0 h0 h1
theorem or64 {x : Int} (h0 : 0 ≤ x) (h1 : x < 64) : Go.bits BinOp.or IntKind.u8 x 64 = x + 64 := or_tag 1 h0 h1
theorem or128 {x : Int} (h0 : 0 ≤ x) (h1 : x < 64) : Go.bits BinOp.or IntKind.u8 x 128 = x + 128 := or_tag 2 h0 h1
theorem or192 {x : Int} (h0 : 0 ≤ x) (h1 : x < 64) : Go.bits BinOp.or IntKind.u8 x 192 = x + 192 := or_tag 3 h0 h1
theorem getElem?_more {L : List Value} {j : Nat} {x : Value} (h : L[j]? = some x) (Z : List Value) : (L ++ Z).toArray[j]? = some x := by
 rw [List.getElem?_toArray, List.getElem?_append_left (List.getElem?_eq_some_iff.1 h).1]; exact h
theorem one_u8v (bs : List UInt8) : ∀ x ∈ bs.map u8v, x.oneCell' = true := by
 intro x hx; obtain ⟨c, _, rfl⟩ := List.mem_map.1 hx; rfl
theorem lt_of_rowB {w : World} {b : Nat} {o : Obj} (hb : w.heap[b]? = some o) : b < w.heap.size := by
 rcases Nat.lt_or_ge b w.heap.size with h | h
 · exact h
 · rw [Array.getElem?_eq_none h] at hb; cases hb
theorem splice_spelt (cur : List Value) (off : Nat) (bs : List UInt8) : List.take off cur ++ (List.map u8v bs ++ List.drop (off + bs.length) cur) = splice cur off (bs.map u8v) := by simp [splice]
theorem lay_close {w : World} {o : Obj} {b : Nat} {cur X : List Value} {t : TypeId} (hb : w.heap[b]? = some (.cells cur.toArray t (0, 0))) :
 w.grownBy ((w.alloc o).drew.setRow b X.toArray) (some b) ∧ ((w.alloc o).drew.setRow b X.toArray).heap[b]? = some (.cells X.toArray t (0, 0)) := by
 have hb1 : (w.alloc o).drew.heap[b]? = some (.cells cur.toArray t (0, 0)) := (Below.heap_alloc w o b (lt_of_rowB hb)).trans hb
 refine ⟨⟨rfl, rfl, rfl, by simp [World.setRow], fun k hk hne => ?_⟩, setRow_heap _ b _ _ t _ hb1⟩
 rw [setRow_other _ _ _ _ (by intro e; exact hne (by rw [e]))]
 exact Below.heap_alloc w o k hk
theorem cells_1 (v : Int) (h0 : 0 ≤ v) (h1 : v < 64) :
 ([.int .u8 (Go.bits BinOp.or IntKind.u8 (v) 0)] : List Value) = (numB v.toNat).map u8v := by
 obtain ⟨n, rfl⟩ := Int.eq_ofNat_of_zero_le (show 0 ≤ v by omega)
 rw [or0 (by omega) (by omega), Int.toNat_natCast, numB_1 (by omega)]
 simp only [beB, List.range_succ, List.range_zero, List.nil_append, List.map_cons, List.map_nil, Nat.reduceSub, Nat.reducePow, Nat.div_one]
 congr 1; exact u8v_of (by omega)
theorem len_1 {v : Int} (h0 : 0 ≤ v) (h1 : v < 64) : (numB v.toNat).length = 1 := by rw [numB_1 (by omega), length_beB]
theorem cells_2 (v : Int) (h0 : 64 ≤ v) (h1 : v < 16384) :
 ([.int .u8 (Go.bits BinOp.or IntKind.u8 (v / 256) 64), .int .u8 (v % 256)] : List Value) = (numB v.toNat).map u8v := by
 obtain ⟨n, rfl⟩ := Int.eq_ofNat_of_zero_le (show 0 ≤ v by omega)
 rw [or64 (by omega) (by omega), Int.toNat_natCast, numB_2 (by omega) (by omega)]
 simp only [beB, List.range_succ, List.range_zero, List.nil_append, List.cons_append, List.map_cons, List.map_nil, Nat.reduceSub, Nat.reducePow, Nat.div_one]
 congr 1; exact u8v_of (by omega)
 congr 1; exact u8v_of (by omega)
theorem len_2 {v : Int} (h0 : 64 ≤ v) (h1 : v < 16384) : (numB v.toNat).length = 2 := by rw [numB_2 (by omega) (by omega), length_beB]
theorem cells_4 (v : Int) (h0 : 16384 ≤ v) (h1 : v < 1073741824) :
 ([.int .u8 (Go.bits BinOp.or IntKind.u8 (v / 16777216) 128), .int .u8 (v / 65536 % 256), .int .u8 (v / 256 % 256), .int .u8 (v % 256)] : List Value) = (numB v.toNat).map u8v := by
 obtain ⟨n, rfl⟩ := Int.eq_ofNat_of_zero_le (show 0 ≤ v by omega)
 rw [or128 (by omega) (by omega), Int.toNat_natCast, numB_4 (by omega) (by omega)]
 simp only [beB, List.range_succ, List.range_zero, List.nil_append, List.cons_append, List.map_cons, List.map_nil, Nat.reduceSub, Nat.reducePow, Nat.div_one]
 congr 1; exact u8v_of (by omega)
 congr 1; exact u8v_of (by omega)
 congr 1; exact u8v_of (by omega)
 congr 1; exact u8v_of (by omega)
theorem len_4 {v : Int} (h0 : 16384 ≤ v) (h1 : v < 1073741824) : (numB v.toNat).length = 4 := by rw [numB_4 (by omega) (by omega), length_beB]
theorem cells_8 (v : Int) (h0 : 1073741824 ≤ v) (h1 : v < 4611686018427387904) :
 ([.int .u8 (Go.bits BinOp.or IntKind.u8 (v / 72057594037927936) 192), .int .u8 (v / 281474976710656 % 256), .int .u8 (v / 1099511627776 % 256), .int .u8 (v / 4294967296 % 256), .int .u8 (v / 16777216 % 256), .int .u8 (v / 65536 % 256), .int .u8 (v / 256 % 256), .int .u8 (v % 256)] : List Value) = (numB v.toNat).map u8v := by
 obtain ⟨n, rfl⟩ := Int.eq_ofNat_of_zero_le (show 0 ≤ v by omega)
 rw [or192 (by omega) (by omega), Int.toNat_natCast, numB_8 (by omega)]
 simp only [beB, List.range_succ, List.range_zero, List.nil_append, List.cons_append, List.map_cons, List.map_nil, Nat.reduceSub, Nat.reducePow, Nat.div_one]
 congr 1; exact u8v_of (by omega)
 congr 1; exact u8v_of (by omega)
 congr 1; exact u8v_of (by omega)
 congr 1; exact u8v_of (by omega)
 congr 1; exact u8v_of (by omega)
 congr 1; exact u8v_of (by omega)
 congr 1; exact u8v_of (by omega)
 congr 1; exact u8v_of (by omega)
theorem len_8 {v : Int} (h0 : 1073741824 ≤ v) (h1 : v < 4611686018427387904) : (numB v.toNat).length = 8 := by rw [numB_8 (by omega), length_beB]
theorem numB_len (v : Int) (h0 : 0 ≤ v) (h1 : v < 4611686018427387904) : ((numB v.toNat).length : Int) = szOf v := by
 by_cases a : v < 64
 · rw [len_1 h0 a, szOf1 a]; rfl
 by_cases b : v < 16384
 · rw [len_2 (by omega) b, szOf2 (by omega) b]; rfl
 by_cases c : v < 1073741824
 · rw [len_4 (by omega) c, szOf4 (by omega) c]; rfl
 · rw [len_8 (by omega) h1, szOf8 (by omega) h1]; rfl

def tkVal (a : Nat) (l : List UInt8) : Nat := l.foldl (fun v c => v * 256 + c.toNat) a
def tkLen (c : UInt8) : Nat := 2 ^ (c.toNat / 64)
def tkNum : List UInt8 → Nat × List UInt8 × Nat
 | [] => (0, [], 2)
 | c :: r => if r.length + 1 < tkLen c then (0, [], 2) else
  if szOf (tkVal (c.toNat % 64) (r.take (tkLen c - 1))) = tkLen c then (tkVal (c.toNat % 64) (r.take (tkLen c - 1)), r.drop (tkLen c - 1), 0) else (0, [], 3)
def tkOut (r : Nat × List UInt8 × Nat) : Ending := .returned (.tuple #[.int .u64 r.1, .string ⟨r.2.1.toArray⟩, .int .i64 r.2.2])
def TkPost (s : ByteArray) (w : World) (e : Ending) (w' : World) : Prop := e = tkOut (tkNum s.data.toList) ∧ ∃ k, w' = w.drewN k
theorem tkPost_mk {s : ByteArray} {w : World} {l r : List UInt8} {v x : Nat} {V X : Int} {t : ByteArray} (k : Nat) (hs : s.data.toList = l) (h : tkNum l = (v, r, x)) (hv : V = v) (hr : t = ⟨r.toArray⟩) (hx : X = x) :
 TkPost s w (.returned (.tuple #[.int .u64 V, .string t, .int .i64 X])) (w.drewN k) := by
 subst hs; refine ⟨?_, k, rfl⟩; rw [h, hv, hr, hx]; rfl
theorem getAt {s : ByteArray} {l : List UInt8} (h : s.data.toList = l) (i : Nat) (c : UInt8) (hc : l[i]? = some c) (hi : i < s.size) : s[i] = c := by
 subst h
 have : s.data[i]? = some c := by rw [← Array.getElem?_toList]; exact hc
 have h2 := Array.getElem?_eq_some_iff.1 this
 exact h2.2
theorem sizeOf_toList {s : ByteArray} {l : List UInt8} (h : s.data.toList = l) : s.size = l.length := by subst h; rw [Array.length_toList]; rfl
theorem or_byte (x y : Int) (h0 : 0 ≤ x) (h1 : x < 72057594037927936) (h2 : 0 ≤ y) (h3 : y < 256) : Go.bits BinOp.or IntKind.u64 (x * 256) y = x * 256 + y := by
 obtain ⟨a, rfl⟩ := Int.eq_ofNat_of_zero_le h0
 obtain ⟨b, rfl⟩ := Int.eq_ofNat_of_zero_le h2
 have e : (a : Int) * 256 = ((2 ^ 8 * a : Nat) : Int) := by omega
 rw [e, u64_or_nat _ _ (by omega) (by omega), ← Nat.two_pow_add_eq_or_of_lt (by omega)]
 omega
theorem isEmpty_of {s : ByteArray} {c : UInt8} {r : List UInt8} (h : s.data.toList = c :: r) : s.toList.isEmpty = false ∧ (s.toList == []) = false := by
 rw [ByteArray.toList_eq, h]; exact ⟨rfl, rfl⟩
theorem extract_drop {s : ByteArray} {l : List UInt8} (h : s.data.toList = l) (n : Nat) : s.extract n s.size = ⟨(l.drop n).toArray⟩ := by
 subst h; apply ByteArray.ext
 apply Array.toList_inj.1
 rw [ByteArray.data_extract, Array.toList_extract]
 simp only [List.extract_eq_take_drop]
 exact List.take_of_length_le (by rw [List.length_drop, Array.length_toList]; exact Nat.le_refl _)
theorem tkPost_mk0 {s : ByteArray} {w : World} {l r : List UInt8} {v x : Nat} {V X : Int} {t : ByteArray} (hs : s.data.toList = l) (h : tkNum l = (v, r, x)) (hv : V = v) (hr : t = ⟨r.toArray⟩) (hx : X = x) :
 TkPost s w (.returned (.tuple #[.int .u64 V, .string t, .int .i64 X])) w := tkPost_mk 0 hs h hv hr hx
theorem tkNum_ok {c : UInt8} {bs r : List UInt8} {n : Nat} (hn : tkLen c = n) (hb : bs.length + 1 = n) (hz : szOf (tkVal (c.toNat % 64) bs) = n) : tkNum (c :: (bs ++ r)) = (tkVal (c.toNat % 64) bs, r, 0) := by
 have ht : (bs ++ r).take (n - 1) = bs := by rw [show n - 1 = bs.length by omega]; simp
 have hd : (bs ++ r).drop (n - 1) = r := by rw [show n - 1 = bs.length by omega]; simp
 simp only [tkNum]
 rw [hn, if_neg (by simp; omega), ht, hd, if_pos hz]
theorem tkNum_bad {c : UInt8} {bs r : List UInt8} {n : Nat} (hn : tkLen c = n) (hb : bs.length + 1 = n) (hz : szOf (tkVal (c.toNat % 64) bs) ≠ n) : tkNum (c :: (bs ++ r)) = (0, [], 3) := by
 have ht : (bs ++ r).take (n - 1) = bs := by rw [show n - 1 = bs.length by omega]; simp
 simp only [tkNum]
 rw [hn, if_neg (by simp; omega), ht, if_neg hz]
theorem tkNum_short {c : UInt8} {r : List UInt8} {n : Nat} (hn : tkLen c = n) (hb : r.length + 1 < n) : tkNum (c :: r) = (0, [], 2) := by
 simp only [tkNum]
 rw [hn, if_pos hb]
theorem tkLen_of {c : UInt8} {t n : Nat} (h : c.toNat / 64 = t) (hn : 2 ^ t = n) : Hid (tkLen c = n) := by
 show 2 ^ (c.toNat / 64) = n; rw [h, hn]
theorem size_mk (l : List UInt8) : (ByteArray.mk ⟨l⟩).size = l.length := rfl

theorem numB_le (n : Nat) : (numB n).length ≤ 8 := by
 unfold numB
 split; rw [length_beB]; omega
 split; rw [length_beB]; omega
 split; rw [length_beB]; omega
 rw [length_beB]; omega
theorem retStrI {s t : ByteArray} {k : IntKind} {e : Int} (h : s = t) : Ending.returned (.tuple #[.string s, .int k e]) = .returned (.tuple #[.string t, .int k e]) := by rw [h]


end Go.Proofs.YtdcpiaoadbbdoaaGreat
