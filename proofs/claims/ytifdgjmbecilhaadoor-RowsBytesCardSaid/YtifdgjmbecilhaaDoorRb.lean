/- The reference of layer 1: what the walks of Num want, in plain words. -/
import Derived.Test.YtifdgjmbecilhaaDoorSl
import Derived.Lib.Hide
namespace Go.Proofs.YtifdgjmbecilhaaDoor
open Go.RowKit

/-- string([]byte{c}). -/
theorem one_byte (w : World) (c : Int) : (convert 69 9 (.slice (some ⟨w.heap.size, 0, none⟩) 1 1)).run Tryd.prog (w.alloc (.cells #[.int .u8 c] 5)) = .ok (.string ⟨[UInt8.ofNat c.toNat].toArray⟩) (w.alloc (.cells #[.int .u8 c] 5)) := by
  rw [run_convert_bytes_string _ 69 9 5 _ _ _ Tryd.underlying69 Tryd.underlying5 Tryd.underlying9]
  have hl := run_loadCells_list (P := Tryd.prog) (w.alloc (.cells #[.int .u8 c] 5)) ⟨w.heap.size, 0, none⟩ [Value.int .u8 c] (fun j x hj => by
    rw [addHead]; exact (World.cell?_alloc_new _ _ _ _).trans (by simpa using hj))
  rw [run_bytesToString _ _ 1 1 [c] hl]
  rfl
theorem one_byte_at (w : World) (n : Nat) (c : Int) (hn : n = w.heap.size) : (convert 69 9 (.slice (some ⟨n, 0, none⟩) 1 1)).run Tryd.prog (w.alloc (.cells #[.int .u8 c] 5)) = .ok (.string ⟨[UInt8.ofNat c.toNat].toArray⟩) (w.alloc (.cells #[.int .u8 c] 5)) := by
  subst hn; exact one_byte w c
theorem mkApp1 (a : UInt8) (l : List UInt8) : (ByteArray.mk #[a]) ++ ByteArray.mk l.toArray = ByteArray.mk (a :: l).toArray := ByteArray.mk_append_mk [a] l
theorem retStr {s t : ByteArray} {k : IntKind} {e : Int} (h : s = t) : Ending.returned (.tuple #[.string s, .int k e]) = .returned (.tuple #[.string t, .int k e]) := by rw [h]
theorem str_1 (v : Int) (h0 : 0 ≤ v) (h1 : v < 64) : (ByteArray.mk #[UInt8.ofNat ((v) % 256).toNat] ++ { data := #[] }) = ByteArray.mk (numB v.toNat).toArray := by
  obtain ⟨n, rfl⟩ := Int.eq_ofNat_of_zero_le (show 0 ≤ v by omega)
  simp only [mkApp1]
  refine congrArg (fun l : List UInt8 => ByteArray.mk l.toArray) ?_
  rw [Int.toNat_natCast, numB_1 (by omega)]
  simp only [beB, List.range_succ, List.range_zero, List.nil_append, List.map_cons, List.map_nil, Nat.reduceSub, Nat.reducePow, Nat.div_one]
  congr 1; exact u8_of (by omega)
theorem str_2 (v : Int) (h0 : 64 ≤ v) (h1 : v < 16384) : (ByteArray.mk #[UInt8.ofNat (((v + 16384) / 256) % 256).toNat] ++ (ByteArray.mk #[UInt8.ofNat (((v + 16384)) % 256).toNat] ++ { data := #[] })) = ByteArray.mk (numB v.toNat).toArray := by
  obtain ⟨n, rfl⟩ := Int.eq_ofNat_of_zero_le (show 0 ≤ v by omega)
  simp only [mkApp1]
  refine congrArg (fun l : List UInt8 => ByteArray.mk l.toArray) ?_
  rw [Int.toNat_natCast, numB_2 (by omega) (by omega)]
  simp only [beB, List.range_succ, List.range_zero, List.nil_append, List.cons_append, List.map_cons, List.map_nil, Nat.reduceSub, Nat.reducePow, Nat.div_one]
  congr 1; exact u8_of (by omega)
  congr 1; exact u8_of (by omega)
theorem str_4 (v : Int) (h0 : 16384 ≤ v) (h1 : v < 1073741824) : (ByteArray.mk #[UInt8.ofNat (((v + 2147483648) / 256 / 256 / 256) % 256).toNat] ++ (ByteArray.mk #[UInt8.ofNat (((v + 2147483648) / 256 / 256) % 256).toNat] ++ (ByteArray.mk #[UInt8.ofNat (((v + 2147483648) / 256) % 256).toNat] ++ (ByteArray.mk #[UInt8.ofNat (((v + 2147483648)) % 256).toNat] ++ { data := #[] })))) = ByteArray.mk (numB v.toNat).toArray := by
  obtain ⟨n, rfl⟩ := Int.eq_ofNat_of_zero_le (show 0 ≤ v by omega)
  simp only [mkApp1]
  refine congrArg (fun l : List UInt8 => ByteArray.mk l.toArray) ?_
  rw [Int.toNat_natCast, numB_4 (by omega) (by omega)]
  simp only [beB, List.range_succ, List.range_zero, List.nil_append, List.cons_append, List.map_cons, List.map_nil, Nat.reduceSub, Nat.reducePow, Nat.div_one]
  congr 1; exact u8_of (by omega)
  congr 1; exact u8_of (by omega)
  congr 1; exact u8_of (by omega)
  congr 1; exact u8_of (by omega)
theorem str_8 (v : Int) (h0 : 1073741824 ≤ v) (h1 : v < 4611686018427387904) : (ByteArray.mk #[UInt8.ofNat (((v + 13835058055282163712) / 256 / 256 / 256 / 256 / 256 / 256 / 256) % 256).toNat] ++ (ByteArray.mk #[UInt8.ofNat (((v + 13835058055282163712) / 256 / 256 / 256 / 256 / 256 / 256) % 256).toNat] ++ (ByteArray.mk #[UInt8.ofNat (((v + 13835058055282163712) / 256 / 256 / 256 / 256 / 256) % 256).toNat] ++ (ByteArray.mk #[UInt8.ofNat (((v + 13835058055282163712) / 256 / 256 / 256 / 256) % 256).toNat] ++ (ByteArray.mk #[UInt8.ofNat (((v + 13835058055282163712) / 256 / 256 / 256) % 256).toNat] ++ (ByteArray.mk #[UInt8.ofNat (((v + 13835058055282163712) / 256 / 256) % 256).toNat] ++ (ByteArray.mk #[UInt8.ofNat (((v + 13835058055282163712) / 256) % 256).toNat] ++ (ByteArray.mk #[UInt8.ofNat (((v + 13835058055282163712)) % 256).toNat] ++ { data := #[] })))))))) = ByteArray.mk (numB v.toNat).toArray := by
  obtain ⟨n, rfl⟩ := Int.eq_ofNat_of_zero_le (show 0 ≤ v by omega)
  simp only [mkApp1]
  refine congrArg (fun l : List UInt8 => ByteArray.mk l.toArray) ?_
  rw [Int.toNat_natCast, numB_8 (by omega)]
  simp only [beB, List.range_succ, List.range_zero, List.nil_append, List.cons_append, List.map_cons, List.map_nil, Nat.reduceSub, Nat.reducePow, Nat.div_one]
  congr 1; exact u8_of (by omega)
  congr 1; exact u8_of (by omega)
  congr 1; exact u8_of (by omega)
  congr 1; exact u8_of (by omega)
  congr 1; exact u8_of (by omega)
  congr 1; exact u8_of (by omega)
  congr 1; exact u8_of (by omega)
  congr 1; exact u8_of (by omega)
end Go.Proofs.YtifdgjmbecilhaaDoor
