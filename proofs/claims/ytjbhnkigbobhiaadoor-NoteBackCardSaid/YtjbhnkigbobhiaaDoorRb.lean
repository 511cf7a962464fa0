/- What a number's bytes come to (layer 1), in plain words. -/
import Derived.Test.YtjbhnkigbobhiaaDoorPb
import Derived.Deep.QuietTactic
import Derived.BigQuiet
import Derived.Lib.Hide
import Derived.Deep.Draws
import Derived.Laws.BytesArg
namespace Go.Proofs.YtjbhnkigbobhiaaDoor
open Go.RowKit

/-- What a number's bytes come to: the number, what stands behind it, the error. -/
def tkVal (a : Nat) (l : List UInt8) : Nat := l.foldl (fun v c => v * 256 + c.toNat) a
def tkLen (c : UInt8) : Nat := 2 ^ (c.toNat / 64)
def tkNum : List UInt8 → Nat × List UInt8 × Nat
  | [] => (0, [], 2)
  | c :: r => if r.length + 1 < tkLen c then (0, [], 2) else
      if szOf (tkVal (c.toNat % 64) (r.take (tkLen c - 1))) = tkLen c then (tkVal (c.toNat % 64) (r.take (tkLen c - 1)), r.drop (tkLen c - 1), 0) else (0, [], 3)
/-- The three results as a tuple. -/
def tkOut (r : Nat × List UInt8 × Nat) : Ending := .returned (.tuple #[.int .u64 r.1, .string ⟨r.2.1.toArray⟩, .int .i64 r.2.2])
def TkPost (s : ByteArray) (w : World) (e : Ending) (w' : World) : Prop := e = tkOut (tkNum s.data.toList) ∧ ∃ k, w' = w.drewN k
theorem tkPost_mk {s : ByteArray} {w : World} {l r : List UInt8} {v x : Nat} {V X : Int} {t : ByteArray} (k : Nat) (hs : s.data.toList = l) (h : tkNum l = (v, r, x)) (hv : V = v) (hr : t = ⟨r.toArray⟩) (hx : X = x) :
    TkPost s w (.returned (.tuple #[.int .u64 V, .string t, .int .i64 X])) (w.drewN k) := by
  subst hs; refine ⟨?_, k, rfl⟩; rw [h, hv, hr, hx]; rfl
theorem getAt {s : ByteArray} {l : List UInt8} (h : s.data.toList = l) (i : Nat) (c : UInt8) (hc : l[i]? = some c) (hi : i < s.size) : s[i] = c := by
  subst h
  have : s.data[i]? = some c := by rw [← Array.getElem?_toList]; exact hc
  have h2 := Array.getElem?_eq_some_iff.1 this
  exact h2.2
theorem sizeOf_toList {s : ByteArray} {l : List UInt8} (h : s.data.toList = l) : s.size = l.length := by subst h; rw [Array.length_toList]; rfl
theorem or_byte (x y : Int) (h0 : 0 ≤ x) (h1 : x < 72057594037927936) (h2 : 0 ≤ y) (h3 : y < 256) : Go.bits BinOp.or IntKind.u64 (x * 256) y = x * 256 + y := by
  obtain ⟨a, rfl⟩ := Int.eq_ofNat_of_zero_le h0
  obtain ⟨b, rfl⟩ := Int.eq_ofNat_of_zero_le h2
  have e : (a : Int) * 256 = ((2 ^ 8 * a : Nat) : Int) := by omega
  rw [e, u64_or_nat _ _ (by omega) (by omega), ← Nat.two_pow_add_eq_or_of_lt (by omega)]
  omega
theorem isEmpty_of {s : ByteArray} {c : UInt8} {r : List UInt8} (h : s.data.toList = c :: r) : s.toList.isEmpty = false ∧ (s.toList == []) = false := by
  rw [ByteArray.toList_eq, h]; exact ⟨rfl, rfl⟩
theorem extract_drop {s : ByteArray} {l : List UInt8} (h : s.data.toList = l) (n : Nat) : s.extract n s.size = ⟨(l.drop n).toArray⟩ := by
  subst h; apply ByteArray.ext
  apply Array.toList_inj.1
  rw [ByteArray.data_extract, Array.toList_extract]
  simp only [List.extract_eq_take_drop]
  exact List.take_of_length_le (by rw [List.length_drop, Array.length_toList]; exact Nat.le_refl _)
theorem tkPost_mk0 {s : ByteArray} {w : World} {l r : List UInt8} {v x : Nat} {V X : Int} {t : ByteArray} (hs : s.data.toList = l) (h : tkNum l = (v, r, x)) (hv : V = v) (hr : t = ⟨r.toArray⟩) (hx : X = x) :
    TkPost s w (.returned (.tuple #[.int .u64 V, .string t, .int .i64 X])) w := tkPost_mk 0 hs h hv hr hx
theorem tkNum_ok {c : UInt8} {bs r : List UInt8} {n : Nat} (hn : tkLen c = n) (hb : bs.length + 1 = n) (hz : szOf (tkVal (c.toNat % 64) bs) = n) : tkNum (c :: (bs ++ r)) = (tkVal (c.toNat % 64) bs, r, 0) := by
  have ht : (bs ++ r).take (n - 1) = bs := by rw [show n - 1 = bs.length by omega]; simp
  have hd : (bs ++ r).drop (n - 1) = r := by rw [show n - 1 = bs.length by omega]; simp
  simp only [tkNum]
  rw [hn, if_neg (by simp; omega), ht, hd, if_pos hz]
theorem tkNum_bad {c : UInt8} {bs r : List UInt8} {n : Nat} (hn : tkLen c = n) (hb : bs.length + 1 = n) (hz : szOf (tkVal (c.toNat % 64) bs) ≠ n) : tkNum (c :: (bs ++ r)) = (0, [], 3) := by
  have ht : (bs ++ r).take (n - 1) = bs := by rw [show n - 1 = bs.length by omega]; simp
  simp only [tkNum]
  rw [hn, if_neg (by simp; omega), ht, if_neg hz]
theorem tkNum_short {c : UInt8} {r : List UInt8} {n : Nat} (hn : tkLen c = n) (hb : r.length + 1 < n) : tkNum (c :: r) = (0, [], 2) := by
  simp only [tkNum]
  rw [hn, if_pos hb]
theorem tkLen_of {c : UInt8} {t n : Nat} (h : c.toNat / 64 = t) (hn : 2 ^ t = n) : Hid (tkLen c = n) := by
  show 2 ^ (c.toNat / 64) = n; rw [h, hn]
theorem size_mk (l : List UInt8) : (ByteArray.mk ⟨l⟩).size = l.length := rfl
end Go.Proofs.YtjbhnkigbobhiaaDoor
/- Layer 2 in plain words: the sum, the sealed text, what is taken, what is told. -/
namespace Go.Proofs.YtjbhnkigbobhiaaDoor
open Go.RowKit

def adl (p : Nat × Nat) (c : UInt8) : Nat × Nat := ((p.1 + c.toNat) % 65521, (p.2 + (p.1 + c.toNat) % 65521) % 65521)
def adlOf (l : List UInt8) : Nat × Nat := l.foldl adl (1, 0)
def sumOf (l : List UInt8) : Nat := (adlOf l).2 * 65536 + (adlOf l).1
theorem adlOf_snoc (l : List UInt8) (c : UInt8) : adlOf (l ++ [c]) = adl (adlOf l) c := by simp [adlOf]
theorem foldl_adl_lt (l : List UInt8) : ∀ p : Nat × Nat, p.1 < 65521 → p.2 < 65521 → (l.foldl adl p).1 < 65521 ∧ (l.foldl adl p).2 < 65521 := by
  induction l with
  | nil => intro p h1 h2; exact ⟨h1, h2⟩
  | cons c l ih => intro p _ _; exact ih _ (Nat.mod_lt _ (by decide)) (Nat.mod_lt _ (by decide))
theorem adlOf_lt (l : List UInt8) : (adlOf l).1 < 65521 ∧ (adlOf l).2 < 65521 := foldl_adl_lt l _ (by decide) (by decide)
theorem take_snoc (s : ByteArray) (k : Nat) (h : k < s.size) : s.data.toList.take (k + 1) = s.data.toList.take k ++ [s[k]] := by
  rw [List.take_succ_eq_append_getElem (by simpa using h)]; rfl
theorem valU32 {a b : Int} (h : a = b) : Value.int .u32 a = .int .u32 b := by rw [h]
theorem retU32 {a b : Int} (h : a = b) : Ending.returned (.int .u32 a) = .returned (.int .u32 b) := by rw [h]
theorem retS {s t : ByteArray} (h : s = t) : Ending.returned (.string s) = .returned (.string t) := by rw [h]
theorem sumOf_lt (l : List UInt8) : (sumOf l : Int) < 4294967296 := by unfold sumOf; have := adlOf_lt l; omega
theorem numB_le (n : Nat) : (numB n).length ≤ 8 := by
  unfold numB
  split; rw [length_beB]; omega
  split; rw [length_beB]; omega
  split; rw [length_beB]; omega
  rw [length_beB]; omega
theorem app_mk (a : List UInt8) (s : ByteArray) : ByteArray.mk a.toArray ++ s = ByteArray.mk (a ++ s.data.toList).toArray := by
  obtain ⟨⟨l⟩⟩ := s; exact ByteArray.mk_append_mk a l
theorem data_app (s t : ByteArray) : (s ++ t).data.toList = s.data.toList ++ t.data.toList := by simp
/-- A sum's four bytes. -/
def fourB (v : Nat) : List UInt8 := [UInt8.ofNat (v / 16777216), UInt8.ofNat (v / 65536), UInt8.ofNat (v / 256), UInt8.ofNat v]
theorem len_four (v : Nat) : (fourB v).length = 4 := rfl
theorem size_arr (l : List UInt8) : (ByteArray.mk l.toArray).size = l.length := List.size_toArray
theorem len_data (s : ByteArray) : s.data.toList.length = s.size := by rw [Array.length_toList]; rfl
theorem retStrI {s t : ByteArray} {k : IntKind} {e : Int} (h : s = t) : Ending.returned (.tuple #[.string s, .int k e]) = .returned (.tuple #[.string t, .int k e]) := by rw [h]
/-- A sealed text. -/
def putB (l : List UInt8) : List UInt8 := (numB l.length ++ l) ++ fourB (sumOf (numB l.length ++ l))
/-- What is taken: the text, what stands behind it, the error. -/
def tkSeal (b : List UInt8) : List UInt8 × List UInt8 × Nat :=
  if (tkNum b).2.2 ≠ 0 then ([], [], (tkNum b).2.2) else
  if 65536 < (tkNum b).1 then ([], [], 4) else
  if (tkNum b).2.1.length < (tkNum b).1 + 4 then ([], [], 2) else
  if fourB (sumOf (b.take (b.length - (tkNum b).2.1.length + (tkNum b).1))) = ((tkNum b).2.1.drop (tkNum b).1).take 4 then ((tkNum b).2.1.take (tkNum b).1, (tkNum b).2.1.drop ((tkNum b).1 + 4), 0) else ([], [], 3)
/-- string([]byte{..}) of a new block. -/
theorem str_new (w : World) (m : Nat) (hm : m = w.heap.size) (ns : List Int) : (convert 60 9 (.slice (some ⟨m, 0, none⟩) ns.length ns.length)).run Tryd.prog (w.alloc (.cells (ns.map (Value.int .u8)).toArray 5)) = .ok (.string ⟨(ns.map fun n => UInt8.ofNat n.toNat).toArray⟩) (w.alloc (.cells (ns.map (Value.int .u8)).toArray 5)) := by
  subst hm
  rw [run_convert_bytes_string _ 60 9 5 _ _ _ Tryd.underlying60 Tryd.underlying5 Tryd.underlying9]
  have hl := run_loadCells_list (P := Tryd.prog) (w.alloc (.cells (ns.map (Value.int .u8)).toArray 5)) ⟨w.heap.size, 0, none⟩ (ns.map (Value.int .u8)) (fun j x hj => by
    rw [addHead]; exact (World.cell?_alloc_new _ _ _ _).trans (by rw [List.getElem?_toArray]; exact hj))
  rw [List.length_map] at hl
  rw [run_bytesToString _ _ ns.length ns.length ns hl, foldl_push_bytes]
  have he0 : ByteArray.empty.data = #[] := rfl
  rw [he0]; simp
theorem four_new (w : World) (m : Nat) (a b c d : Int) (hm : m = w.heap.size) : (convert 60 9 (.slice (some ⟨m, 0, none⟩) 4 4)).run Tryd.prog (w.alloc (.cells #[.int .u8 a, .int .u8 b, .int .u8 c, .int .u8 d] 5)) = .ok (.string ⟨[UInt8.ofNat a.toNat, UInt8.ofNat b.toNat, UInt8.ofNat c.toNat, UInt8.ofNat d.toNat].toArray⟩) (w.alloc (.cells #[.int .u8 a, .int .u8 b, .int .u8 c, .int .u8 d] 5)) :=
  str_new w m hm [a, b, c, d]
theorem u8_of {x : Int} {n : Nat} (h : x = ((n % 256 : Nat) : Int)) : UInt8.ofNat x.toNat = UInt8.ofNat n := by rw [h, Int.toNat_natCast]; exact UInt8.toNat_inj.1 (by simp)
theorem fourB_is {v : Nat} {a b c d : Int} (ha : a = ((v / 16777216 % 256 : Nat) : Int)) (hb : b = ((v / 65536 % 256 : Nat) : Int)) (hc : c = ((v / 256 % 256 : Nat) : Int)) (hd : d = ((v % 256 : Nat) : Int)) :
    [UInt8.ofNat a.toNat, UInt8.ofNat b.toNat, UInt8.ofNat c.toNat, UInt8.ofNat d.toNat] = fourB v := by
  unfold fourB; rw [u8_of ha, u8_of hb, u8_of hc, u8_of hd]
theorem retS4 {l m : List UInt8} (h : l = m) : Ending.returned (.string ⟨l.toArray⟩) = .returned (.string ⟨m.toArray⟩) := by rw [h]
end Go.Proofs.YtjbhnkigbobhiaaDoor
/- What a sealed text's taking comes to: the shape of the answer, in plain words. -/
namespace Go.Proofs.YtjbhnkigbobhiaaDoor
open Go.RowKit

def TsPost (s : ByteArray) (w : World) (e : Ending) (w' : World) : Prop :=
  e = .returned (.tuple #[.string ⟨(tkSeal s.data.toList).1.toArray⟩, .string ⟨(tkSeal s.data.toList).2.1.toArray⟩, .int .i64 (tkSeal s.data.toList).2.2]) ∧ Below w.heap.size w w'
theorem tsPost_mk {s : ByteArray} {w w' : World} {t r : List UInt8} {x : Nat} {X : Int} {T R : ByteArray} (h : tkSeal s.data.toList = (t, r, x)) (ht : T = ⟨t.toArray⟩) (hr : R = ⟨r.toArray⟩) (hx : X = x) (hb : Below w.heap.size w w') :
    TsPost s w (.returned (.tuple #[.string T, .string R, .int .i64 X])) w' := by
  refine ⟨?_, hb⟩; rw [h, ht, hr, hx]
theorem tkSeal_err {l r : List UInt8} {n x : Nat} (h : tkNum l = (n, r, x)) (hx : x ≠ 0) : tkSeal l = ([], [], x) := by unfold tkSeal; rw [h]; simp [hx]
theorem tkSeal_big {l r : List UInt8} {n : Nat} (h : tkNum l = (n, r, 0)) (hn : 65536 < n) : tkSeal l = ([], [], 4) := by unfold tkSeal; rw [h]; simp [hn]
theorem tkSeal_more {l r : List UInt8} {n : Nat} (h : tkNum l = (n, r, 0)) (hn : n ≤ 65536) (hr : r.length < n + 4) : tkSeal l = ([], [], 2) := by unfold tkSeal; rw [h]; simp [hr]; omega
theorem tkSeal_form {l r : List UInt8} {n : Nat} (h : tkNum l = (n, r, 0)) (hn : n ≤ 65536) (hr : n + 4 ≤ r.length) (hs : fourB (sumOf (l.take (l.length - r.length + n))) ≠ (r.drop n).take 4) : tkSeal l = ([], [], 3) := by
  unfold tkSeal; rw [h]; simp only [ne_eq, not_true_eq_false, if_false]
  rw [if_neg (by omega), if_neg (by omega), if_neg hs]
theorem tkSeal_ok {l r : List UInt8} {n : Nat} (h : tkNum l = (n, r, 0)) (hn : n ≤ 65536) (hr : n + 4 ≤ r.length) (hs : fourB (sumOf (l.take (l.length - r.length + n))) = (r.drop n).take 4) : tkSeal l = (r.take n, r.drop (n + 4), 0) := by
  unfold tkSeal; rw [h]; simp only [ne_eq, not_true_eq_false, if_false]
  rw [if_neg (by omega), if_neg (by omega), if_pos hs]
/-- What stands behind a number is an end of the bytes. -/
theorem tkNum_le {l r : List UInt8} {n x : Nat} (h : tkNum l = (n, r, x)) : r.length ≤ l.length := by
  unfold tkNum at h
  split at h
  · cases h; simp
  · split at h
    · cases h; simp
    · split at h
      · cases h; simp; omega
      · cases h; simp
theorem ext_take (r : List UInt8) (n : Nat) : (ByteArray.mk r.toArray).extract 0 n = ⟨(r.take n).toArray⟩ := by
  rw [ByteArray.extract_mk, List.drop_zero, Nat.sub_zero]
theorem ext_drop (r : List UInt8) (n : Nat) : (ByteArray.mk r.toArray).extract n r.length = ⟨(r.drop n).toArray⟩ := by
  rw [ByteArray.extract_mk, List.take_of_length_le (by rw [List.length_drop]; exact Nat.le_refl _)]
theorem extract_four (r : List UInt8) (n : Nat) : ((ByteArray.mk r.toArray).extract n (n + 4)).toList = (r.drop n).take 4 := by
  rw [ByteArray.extract_mk, ByteArray.toList_mk, Nat.add_sub_cancel_left]
end Go.Proofs.YtjbhnkigbobhiaaDoor
/- The reference of layer 1: what the walks of Num want, in plain words. -/
namespace Go.Proofs.YtjbhnkigbobhiaaDoor
open Go.RowKit

/-- string([]byte{c}). -/
theorem one_byte (w : World) (c : Int) : (convert 60 9 (.slice (some ⟨w.heap.size, 0, none⟩) 1 1)).run Tryd.prog (w.alloc (.cells #[.int .u8 c] 5)) = .ok (.string ⟨[UInt8.ofNat c.toNat].toArray⟩) (w.alloc (.cells #[.int .u8 c] 5)) := by
  rw [run_convert_bytes_string _ 60 9 5 _ _ _ Tryd.underlying60 Tryd.underlying5 Tryd.underlying9]
  have hl := run_loadCells_list (P := Tryd.prog) (w.alloc (.cells #[.int .u8 c] 5)) ⟨w.heap.size, 0, none⟩ [Value.int .u8 c] (fun j x hj => by
    rw [addHead]; exact (World.cell?_alloc_new _ _ _ _).trans (by simpa using hj))
  rw [run_bytesToString _ _ 1 1 [c] hl]
  rfl
theorem one_byte_at (w : World) (n : Nat) (c : Int) (hn : n = w.heap.size) : (convert 60 9 (.slice (some ⟨n, 0, none⟩) 1 1)).run Tryd.prog (w.alloc (.cells #[.int .u8 c] 5)) = .ok (.string ⟨[UInt8.ofNat c.toNat].toArray⟩) (w.alloc (.cells #[.int .u8 c] 5)) := by
  subst hn; exact one_byte w c
theorem mkApp1 (a : UInt8) (l : List UInt8) : (ByteArray.mk #[a]) ++ ByteArray.mk l.toArray = ByteArray.mk (a :: l).toArray := ByteArray.mk_append_mk [a] l
theorem retStr {s t : ByteArray} {k : IntKind} {e : Int} (h : s = t) : Ending.returned (.tuple #[.string s, .int k e]) = .returned (.tuple #[.string t, .int k e]) := by rw [h]
theorem str_1 (v : Int) (h0 : 0 ≤ v) (h1 : v < 64) : (ByteArray.mk #[UInt8.ofNat ((v) % 256).toNat] ++ { data := #[] }) = ByteArray.mk (numB v.toNat).toArray := by
  obtain ⟨n, rfl⟩ := Int.eq_ofNat_of_zero_le (show 0 ≤ v by omega)
  simp only [mkApp1]
  refine congrArg (fun l : List UInt8 => ByteArray.mk l.toArray) ?_
  rw [Int.toNat_natCast, numB_1 (by omega)]
  simp only [beB, List.range_succ, List.range_zero, List.nil_append, List.map_cons, List.map_nil, Nat.reduceSub, Nat.reducePow, Nat.div_one]
  congr 1; exact u8_of (by omega)
theorem str_2 (v : Int) (h0 : 64 ≤ v) (h1 : v < 16384) : (ByteArray.mk #[UInt8.ofNat (((v + 16384) / 256) % 256).toNat] ++ (ByteArray.mk #[UInt8.ofNat (((v + 16384)) % 256).toNat] ++ { data := #[] })) = ByteArray.mk (numB v.toNat).toArray := by
  obtain ⟨n, rfl⟩ := Int.eq_ofNat_of_zero_le (show 0 ≤ v by omega)
  simp only [mkApp1]
  refine congrArg (fun l : List UInt8 => ByteArray.mk l.toArray) ?_
  rw [Int.toNat_natCast, numB_2 (by omega) (by omega)]
  simp only [beB, List.range_succ, List.range_zero, List.nil_append, List.cons_append, List.map_cons, List.map_nil, Nat.reduceSub, Nat.reducePow, Nat.div_one]
  congr 1; exact u8_of (by omega)
  congr 1; exact u8_of (by omega)
theorem str_4 (v : Int) (h0 : 16384 ≤ v) (h1 : v < 1073741824) : (ByteArray.mk #[UInt8.ofNat (((v + 2147483648) / 256 / 256 / 256) % 256).toNat] ++ (ByteArray.mk #[UInt8.ofNat (((v + 2147483648) / 256 / 256) % 256).toNat] ++ (ByteArray.mk #[UInt8.ofNat (((v + 2147483648) / 256) % 256).toNat] ++ (ByteArray.mk #[UInt8.ofNat (((v + 2147483648)) % 256).toNat] ++ { data := #[] })))) = ByteArray.mk (numB v.toNat).toArray := by
  obtain ⟨n, rfl⟩ := Int.eq_ofNat_of_zero_le (show 0 ≤ v by omega)
  simp only [mkApp1]
  refine congrArg (fun l : List UInt8 => ByteArray.mk l.toArray) ?_
  rw [Int.toNat_natCast, numB_4 (by omega) (by omega)]
  simp only [beB, List.range_succ, List.range_zero, List.nil_append, List.cons_append, List.map_cons, List.map_nil, Nat.reduceSub, Nat.reducePow, Nat.div_one]
  congr 1; exact u8_of (by omega)
  congr 1; exact u8_of (by omega)
  congr 1; exact u8_of (by omega)
  congr 1; exact u8_of (by omega)
theorem str_8 (v : Int) (h0 : 1073741824 ≤ v) (h1 : v < 4611686018427387904) : (ByteArray.mk #[UInt8.ofNat (((v + 13835058055282163712) / 256 / 256 / 256 / 256 / 256 / 256 / 256) % 256).toNat] ++ (ByteArray.mk #[UInt8.ofNat (((v + 13835058055282163712) / 256 / 256 / 256 / 256 / 256 / 256) % 256).toNat] ++ (ByteArray.mk #[UInt8.ofNat (((v + 13835058055282163712) / 256 / 256 / 256 / 256 / 256) % 256).toNat] ++ (ByteArray.mk #[UInt8.ofNat (((v + 13835058055282163712) / 256 / 256 / 256 / 256) % 256).toNat] ++ (ByteArray.mk #[UInt8.ofNat (((v + 13835058055282163712) / 256 / 256 / 256) % 256).toNat] ++ (ByteArray.mk #[UInt8.ofNat (((v + 13835058055282163712) / 256 / 256) % 256).toNat] ++ (ByteArray.mk #[UInt8.ofNat (((v + 13835058055282163712) / 256) % 256).toNat] ++ (ByteArray.mk #[UInt8.ofNat (((v + 13835058055282163712)) % 256).toNat] ++ { data := #[] })))))))) = ByteArray.mk (numB v.toNat).toArray := by
  obtain ⟨n, rfl⟩ := Int.eq_ofNat_of_zero_le (show 0 ≤ v by omega)
  simp only [mkApp1]
  refine congrArg (fun l : List UInt8 => ByteArray.mk l.toArray) ?_
  rw [Int.toNat_natCast, numB_8 (by omega)]
  simp only [beB, List.range_succ, List.range_zero, List.nil_append, List.cons_append, List.map_cons, List.map_nil, Nat.reduceSub, Nat.reducePow, Nat.div_one]
  congr 1; exact u8_of (by omega)
  congr 1; exact u8_of (by omega)
  congr 1; exact u8_of (by omega)
  congr 1; exact u8_of (by omega)
  congr 1; exact u8_of (by omega)
  congr 1; exact u8_of (by omega)
  congr 1; exact u8_of (by omega)
  congr 1; exact u8_of (by omega)
end Go.Proofs.YtjbhnkigbobhiaaDoor
