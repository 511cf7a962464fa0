/- Layer 2 in plain words: the sum, the sealed text, what is taken, what is told. -/
import Derived.Test.YtifdgjmbecilhaaDoorTk
import Derived.Test.YtifdgjmbecilhaaDoorPb
import Derived.Laws.BytesArg
namespace Go.Proofs.YtifdgjmbecilhaaDoor
open Go.RowKit

def adl (p : Nat × Nat) (c : UInt8) : Nat × Nat := ((p.1 + c.toNat) % 65521, (p.2 + (p.1 + c.toNat) % 65521) % 65521)
def adlOf (l : List UInt8) : Nat × Nat := l.foldl adl (1, 0)
def sumOf (l : List UInt8) : Nat := (adlOf l).2 * 65536 + (adlOf l).1
theorem adlOf_snoc (l : List UInt8) (c : UInt8) : adlOf (l ++ [c]) = adl (adlOf l) c := by simp [adlOf]
theorem foldl_adl_lt (l : List UInt8) : ∀ p : Nat × Nat, p.1 < 65521 → p.2 < 65521 → (l.foldl adl p).1 < 65521 ∧ (l.foldl adl p).2 < 65521 := by
  induction l with
  | nil => intro p h1 h2; exact ⟨h1, h2⟩
  | cons c l ih => intro p _ _; exact ih _ (Nat.mod_lt _ (by decide)) (Nat.mod_lt _ (by decide))
theorem adlOf_lt (l : List UInt8) : (adlOf l).1 < 65521 ∧ (adlOf l).2 < 65521 := foldl_adl_lt l _ (by decide) (by decide)
theorem take_snoc (s : ByteArray) (k : Nat) (h : k < s.size) : s.data.toList.take (k + 1) = s.data.toList.take k ++ [s[k]] := by
  rw [List.take_succ_eq_append_getElem (by simpa using h)]; rfl
theorem valU32 {a b : Int} (h : a = b) : Value.int .u32 a = .int .u32 b := by rw [h]
theorem retU32 {a b : Int} (h : a = b) : Ending.returned (.int .u32 a) = .returned (.int .u32 b) := by rw [h]
theorem retS {s t : ByteArray} (h : s = t) : Ending.returned (.string s) = .returned (.string t) := by rw [h]
theorem sumOf_lt (l : List UInt8) : (sumOf l : Int) < 4294967296 := by unfold sumOf; have := adlOf_lt l; omega
theorem numB_le (n : Nat) : (numB n).length ≤ 8 := by
  unfold numB
  split; rw [length_beB]; omega
  split; rw [length_beB]; omega
  split; rw [length_beB]; omega
  rw [length_beB]; omega
theorem app_mk (a : List UInt8) (s : ByteArray) : ByteArray.mk a.toArray ++ s = ByteArray.mk (a ++ s.data.toList).toArray := by
  obtain ⟨⟨l⟩⟩ := s; exact ByteArray.mk_append_mk a l
theorem data_app (s t : ByteArray) : (s ++ t).data.toList = s.data.toList ++ t.data.toList := by simp
/-- A sum's four bytes. -/
def fourB (v : Nat) : List UInt8 := [UInt8.ofNat (v / 16777216), UInt8.ofNat (v / 65536), UInt8.ofNat (v / 256), UInt8.ofNat v]
theorem len_four (v : Nat) : (fourB v).length = 4 := rfl
theorem size_arr (l : List UInt8) : (ByteArray.mk l.toArray).size = l.length := List.size_toArray
theorem len_data (s : ByteArray) : s.data.toList.length = s.size := by rw [Array.length_toList]; rfl
theorem retStrI {s t : ByteArray} {k : IntKind} {e : Int} (h : s = t) : Ending.returned (.tuple #[.string s, .int k e]) = .returned (.tuple #[.string t, .int k e]) := by rw [h]
/-- A sealed text. -/
def putB (l : List UInt8) : List UInt8 := (numB l.length ++ l) ++ fourB (sumOf (numB l.length ++ l))
/-- What is taken: the text, what stands behind it, the error. -/
def tkSeal (b : List UInt8) : List UInt8 × List UInt8 × Nat :=
  if (tkNum b).2.2 ≠ 0 then ([], [], (tkNum b).2.2) else
  if 65536 < (tkNum b).1 then ([], [], 4) else
  if (tkNum b).2.1.length < (tkNum b).1 + 4 then ([], [], 2) else
  if fourB (sumOf (b.take (b.length - (tkNum b).2.1.length + (tkNum b).1))) = ((tkNum b).2.1.drop (tkNum b).1).take 4 then ((tkNum b).2.1.take (tkNum b).1, (tkNum b).2.1.drop ((tkNum b).1 + 4), 0) else ([], [], 3)
/-- string([]byte{..}) of a new block. -/
theorem str_new (w : World) (m : Nat) (hm : m = w.heap.size) (ns : List Int) : (convert 69 9 (.slice (some ⟨m, 0, none⟩) ns.length ns.length)).run Tryd.prog (w.alloc (.cells (ns.map (Value.int .u8)).toArray 5)) = .ok (.string ⟨(ns.map fun n => UInt8.ofNat n.toNat).toArray⟩) (w.alloc (.cells (ns.map (Value.int .u8)).toArray 5)) := by
  subst hm
  rw [run_convert_bytes_string _ 69 9 5 _ _ _ Tryd.underlying69 Tryd.underlying5 Tryd.underlying9]
  have hl := run_loadCells_list (P := Tryd.prog) (w.alloc (.cells (ns.map (Value.int .u8)).toArray 5)) ⟨w.heap.size, 0, none⟩ (ns.map (Value.int .u8)) (fun j x hj => by
    rw [addHead]; exact (World.cell?_alloc_new _ _ _ _).trans (by rw [List.getElem?_toArray]; exact hj))
  rw [List.length_map] at hl
  rw [run_bytesToString _ _ ns.length ns.length ns hl, foldl_push_bytes]
  have he0 : ByteArray.empty.data = #[] := rfl
  rw [he0]; simp
theorem four_new (w : World) (m : Nat) (a b c d : Int) (hm : m = w.heap.size) : (convert 69 9 (.slice (some ⟨m, 0, none⟩) 4 4)).run Tryd.prog (w.alloc (.cells #[.int .u8 a, .int .u8 b, .int .u8 c, .int .u8 d] 5)) = .ok (.string ⟨[UInt8.ofNat a.toNat, UInt8.ofNat b.toNat, UInt8.ofNat c.toNat, UInt8.ofNat d.toNat].toArray⟩) (w.alloc (.cells #[.int .u8 a, .int .u8 b, .int .u8 c, .int .u8 d] 5)) :=
  str_new w m hm [a, b, c, d]
theorem u8_of {x : Int} {n : Nat} (h : x = ((n % 256 : Nat) : Int)) : UInt8.ofNat x.toNat = UInt8.ofNat n := by rw [h, Int.toNat_natCast]; exact UInt8.toNat_inj.1 (by simp)
theorem fourB_is {v : Nat} {a b c d : Int} (ha : a = ((v / 16777216 % 256 : Nat) : Int)) (hb : b = ((v / 65536 % 256 : Nat) : Int)) (hc : c = ((v / 256 % 256 : Nat) : Int)) (hd : d = ((v % 256 : Nat) : Int)) :
    [UInt8.ofNat a.toNat, UInt8.ofNat b.toNat, UInt8.ofNat c.toNat, UInt8.ofNat d.toNat] = fourB v := by
  unfold fourB; rw [u8_of ha, u8_of hb, u8_of hc, u8_of hd]
theorem retS4 {l m : List UInt8} (h : l = m) : Ending.returned (.string ⟨l.toArray⟩) = .returned (.string ⟨m.toArray⟩) := by rw [h]
end Go.Proofs.YtifdgjmbecilhaaDoor
