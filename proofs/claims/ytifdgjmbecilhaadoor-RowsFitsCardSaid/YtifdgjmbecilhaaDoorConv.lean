/- []byte(b) of a string that is no constant, and string(c) behind one store. -/
import Derived.Test.YtifdgjmbecilhaaDoorSl
import Derived.Laws.IdiomStrings
namespace Go.Proofs.YtifdgjmbecilhaaDoor
open Go.RowKit

/-- []byte(b): a new block whose cells are the string's bytes. -/
theorem conv_any (w : World) (B : List UInt8) : ∃ (W1 : World) (cap : Nat), (convert 9 69 (.string ⟨B.toArray⟩)).run Tryd.prog w = .ok (.slice (some ⟨w.heap.size, 0, none⟩) B.length cap) W1 ∧
    (∀ j x, B[j]? = some x → W1.cell? ⟨w.heap.size, j, none⟩ = some (.int .u8 (x.toNat : Int))) ∧ (∀ j, j < B.length → W1.frozen? ⟨w.heap.size, j, none⟩ = false) ∧ Below w.heap.size w W1 ∧ W1.heap.size = w.heap.size + 1 := by
  have h2 : (w.drew.alloc (.cells (bytesRow ⟨B.toArray⟩ (grownCap w (ByteArray.mk B.toArray).size 0 5)) 5 ((bytesRow ⟨B.toArray⟩ (grownCap w (ByteArray.mk B.toArray).size 0 5)).size, (bytesRow ⟨B.toArray⟩ (grownCap w (ByteArray.mk B.toArray).size 0 5)).size + 1))).heap[w.heap.size]? = some (.cells (bytesRow ⟨B.toArray⟩ (grownCap w (ByteArray.mk B.toArray).size 0 5)) 5 ((bytesRow ⟨B.toArray⟩ (grownCap w (ByteArray.mk B.toArray).size 0 5)).size, (bytesRow ⟨B.toArray⟩ (grownCap w (ByteArray.mk B.toArray).size 0 5)).size + 1)) := by
    show (w.heap.push _)[w.heap.size]? = _
    simp
  refine ⟨_, _, run_bytes_of_string w 9 69 5 ⟨B.toArray⟩ Tryd.underlying9 Tryd.underlying69 Tryd.underlying5, ?_, ?_, ?_, ?_⟩
  · intro j x hj
    simp only [World.cell?, h2]
    have hl := (List.getElem?_eq_some_iff.1 hj).1
    unfold bytesRow
    rw [Array.getElem?_append_left (by simpa using hl)]
    simp [hj]
  · intro j hj
    have : j < (bytesRow ⟨B.toArray⟩ (grownCap w (ByteArray.mk B.toArray).size 0 5)).size := by unfold bytesRow; simp; omega
    simp only [World.frozen?]
    rw [h2]
    simp; omega
  · exact (Below.refl _ _).drew.alloc (Nat.le_refl _) _
  · simp
/-- string(c) where the cells are known, but for one that was stored into. -/
theorem back_any (W : World) (m : Nat) (B : List UInt8) (cap : Nat) (hc : ∀ j x, B[j]? = some x → W.cell? ⟨m, j, none⟩ = some (.int .u8 (x.toNat : Int))) (i : Nat) (hi : i < B.length) (X : Int) :
    (convert 69 9 (.slice (some ⟨m, 0, none⟩) B.length cap)).run Tryd.prog (W.setCell ⟨m, i, none⟩ (.int .u8 X)) = .ok (.string ⟨(B.set i (UInt8.ofNat X.toNat)).toArray⟩) (W.setCell ⟨m, i, none⟩ (.int .u8 X)) := by
  rw [run_convert_bytes_string _ 69 9 5 _ _ _ Tryd.underlying69 Tryd.underlying5 Tryd.underlying9]
  have hl := run_loadCells_list (P := Tryd.prog) (W.setCell ⟨m, i, none⟩ (.int .u8 X)) ⟨m, 0, none⟩ (((B.map fun b => (b.toNat : Int)).set i X).map (Value.int .u8)) (fun j x hj => by
    rw [addHead]
    have hjl : j < B.length := by have := (List.getElem?_eq_some_iff.1 hj).1; simpa using this
    by_cases e : j = i
    · subst e
      have hx : x = .int .u8 X := by simp [hjl] at hj; exact hj.symm
      rw [hx]
      exact World.cell?_setCell_same' _ _ _ (by rw [hc j B[j] (List.getElem?_eq_getElem hjl)]; rfl)
    · have hx : x = .int .u8 (B[j].toNat : Int) := by
        rw [List.getElem?_map, List.getElem?_set_ne (fun h => e h.symm), List.getElem?_map, List.getElem?_eq_getElem hjl] at hj
        simpa using hj.symm
      rw [hx, World.cell?_setCell_other _ _ _ _ (by intro h; apply e; simpa using h.symm)]
      exact hc j B[j] (List.getElem?_eq_getElem hjl))
  rw [List.length_map, List.length_set, List.length_map] at hl
  rw [run_bytesToString _ _ B.length cap _ hl, foldl_push_bytes]
  have he0 : ByteArray.empty.data = #[] := rfl
  rw [he0]
  have : ((B.map fun b => (b.toNat : Int)).set i X).map (fun n => UInt8.ofNat n.toNat) = B.set i (UInt8.ofNat X.toNat) := by
    rw [List.map_set, List.map_map]
    congr 1
    conv => rhs; rw [← List.map_id B]
    apply List.map_congr_left
    intro b _; simp
  rw [this]; simp
theorem xor_ne (x : UInt8) (y : Int) (h0 : 0 < y) (h1 : y < 256) : UInt8.ofNat (Go.bits BinOp.xor IntKind.u8 (x.toNat : Int) y).toNat ≠ x := by
  obtain ⟨n, rfl⟩ := Int.eq_ofNat_of_zero_le (show 0 ≤ y by omega)
  rw [u8_xor_nat _ _ x.toNat_lt (by omega), Int.toNat_natCast]
  intro e
  have e2 := congrArg UInt8.toNat e
  rw [UInt8.toNat_ofNat', Nat.mod_eq_of_lt (Nat.xor_lt_two_pow (n := 8) x.toNat_lt (by omega))] at e2
  have : n = 0 := by
    have e3 : x.toNat ^^^ (x.toNat ^^^ n) = x.toNat ^^^ x.toNat := by rw [e2]
    rw [← Nat.xor_assoc, Nat.xor_self, Nat.zero_xor] at e3; exact e3
  omega
end Go.Proofs.YtifdgjmbecilhaaDoor
