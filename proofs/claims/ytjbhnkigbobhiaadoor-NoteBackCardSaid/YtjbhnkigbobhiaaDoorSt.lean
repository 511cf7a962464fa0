/- Layer 4 in plain words: entries, notes and states in memory; the reference's SameLog, Same, Notes where both are one. -/
import Derived.Test.YtjbhnkigbobhiaaDoorNt
import Derived.Deep.QuietTactic
import Derived.BigQuiet
import Derived.Laws.StructEq
import Derived.WalkSmall
namespace Go.Proofs.YtjbhnkigbobhiaaDoor
open Go.RowKit

/-- An entry. -/
structure En where
  t : Nat
  d : ByteArray
/-- Entries in memory. -/
def Ents (w : World) (a : Option Addr) (L : List En) : Prop :=
  ∀ j x, L[j]? = some x → ∃ b off, a = some ⟨b, off, none⟩ ∧ b < w.heap.size ∧ w.cell? ⟨b, off + j * 2, none⟩ = some (.int .u64 (x.t : Nat)) ∧ w.cell? ⟨b, off + j * 2 + 1, none⟩ = some (.string x.d)
theorem Ents.later {w w' : World} {a : Option Addr} {L : List En} (h : Ents w a L) (hb : Below w.heap.size w w') : Ents w' a L := fun j x hx => by
  obtain ⟨b, off, e, hlt, c0, c1⟩ := h j x hx
  exact ⟨b, off, e, Nat.lt_of_lt_of_le hlt hb.size, (hb.cell (p := ⟨b, off + j * 2, none⟩) hlt).trans c0, (hb.cell (p := ⟨b, off + j * 2 + 1, none⟩) hlt).trans c1⟩
/-- Notes in memory. -/
def Nts (w : World) (a : Option Addr) (L : List Nt) : Prop :=
  ∀ j x, L[j]? = some x → ∃ b off, a = some ⟨b, off, none⟩ ∧ b < w.heap.size ∧ w.cell? ⟨b, off + j * 5, none⟩ = some (.int .i64 x.k) ∧ w.cell? ⟨b, off + j * 5 + 1, none⟩ = some (.int .u64 (x.i : Nat)) ∧
    w.cell? ⟨b, off + j * 5 + 2, none⟩ = some (.int .u64 (x.t : Nat)) ∧ w.cell? ⟨b, off + j * 5 + 3, none⟩ = some (.int .u64 (x.v : Nat)) ∧ w.cell? ⟨b, off + j * 5 + 4, none⟩ = some (.string x.d)
theorem Nts.later {w w' : World} {a : Option Addr} {L : List Nt} (h : Nts w a L) (hb : Below w.heap.size w w') : Nts w' a L := fun j x hx => by
  obtain ⟨b, off, e, hlt, c0, c1, c2, c3, c4⟩ := h j x hx
  exact ⟨b, off, e, Nat.lt_of_lt_of_le hlt hb.size, (hb.cell (p := ⟨b, off + j * 5, none⟩) hlt).trans c0, (hb.cell (p := ⟨b, off + j * 5 + 1, none⟩) hlt).trans c1, (hb.cell (p := ⟨b, off + j * 5 + 2, none⟩) hlt).trans c2,
    (hb.cell (p := ⟨b, off + j * 5 + 3, none⟩) hlt).trans c3, (hb.cell (p := ⟨b, off + j * 5 + 4, none⟩) hlt).trans c4⟩
set_option maxHeartbeats 2000000 in
theorem refNotes_eq (a1 a2 : Option Addr) (n c1 c2 : Nat) (L : List Nt) (hn : L.length = n) (hl : n ≤ 140737488351232) (w : World) (h1 : Nts w a1 L) (h2 : Nts w a2 L) :
    Calls Tryd.prog 19 #[.slice a1 n c1, .slice a2 n c2] w fun e w' => e = .returned (.bool true) ∧ Below w.heap.size w w' := by
  have HN := Lib.hid hn; clear hn
  go_enter Tryd.func19, Tryd.ntmps19
  go_wp2_with fail
  go_loopw [5] (fun i wr => ∃ k : Nat, k ≤ n ∧ i = .int .i64 k ∧ Below w.heap.size w wr) (fun i _ => n - (intOf i).toNat)
  case atStart => exact ⟨0, Nat.zero_le _, rfl, Below.refl _ _⟩
  case round =>
    obtain ⟨k, hk, rfl, B⟩ := hrel
    by_cases hlt : k < n
    · have hkl : k < L.length := by have := HN.out; omega
      obtain ⟨b, off, rfl, _, p0, p1, p2, p3, p4⟩ := (h1.later B) k _ (List.getElem?_eq_getElem hkl)
      obtain ⟨b2, off2, rfl, _, q0, q1, q2, q3, q4⟩ := (h2.later B) k _ (List.getElem?_eq_getElem hkl)
      obtain ⟨x, hx⟩ : ∃ x, L[k] = x := ⟨_, rfl⟩
      rw [hx] at p0 p1 p2 p3 p4 q0 q1 q2 q3 q4
      have HX := Lib.hid hx; clear hx
      have i0 : (0 : Int) ≤ (k : Int) := by omega
      have i1 : (k : Int) < (n : Int) := by omega
      go_wp2_with fail
      go_quiet (fail)
      go_wp2_with fail
      go_roundw
      case rel => exact ⟨k + 1, by omega, by go_num, below_drewN B _⟩
      case measure => simp [intOf]; omega
    · go_wp2_with fail
      go_ret
      exact ⟨rfl, B⟩
set_option maxHeartbeats 2000000 in
theorem refSameLog_eq (a1 a2 : Option Addr) (n c1 c2 base bt : Nat) (snap : ByteArray) (L : List En) (hn : L.length = n) (hl : n ≤ 140737488351232) (w : World) (h1 : Ents w a1 L) (h2 : Ents w a2 L) :
    Calls Tryd.prog 29 #[.agg #[.int .u64 base, .int .u64 bt, .string snap, .slice a1 n c1], .agg #[.int .u64 base, .int .u64 bt, .string snap, .slice a2 n c2]] w fun e w' => e = .returned (.bool true) ∧ Below w.heap.size w w' := by
  have HN := Lib.hid hn; clear hn
  go_enter Tryd.func29, Tryd.ntmps29
  go_wp2_with fail
  generalize hW : ((w.alloc (.cells #[.int .u64 base, .int .u64 bt, .string snap, .slice a1 n c1] 34)).alloc (.cells #[.int .u64 base, .int .u64 bt, .string snap, .slice a2 n c2] 34)) = W
  have hB : Below w.heap.size w W := by subst hW; go_grown
  have x3 : W.cell? ⟨w.heap.size, 3, none⟩ = some (.slice a1 n c1) := by subst hW; simp [go_sem]
  have y3 : W.cell? ⟨w.heap.size + 1, 3, none⟩ = some (.slice a2 n c2) := by subst hW; simp [go_sem]
  have hz : w.heap.size + 1 < W.heap.size := by subst hW; simp
  have g1 := h1.later hB
  have g2 := h2.later hB
  clear hW h1 h2
  go_loopw [5] (fun i wr => ∃ k : Nat, k ≤ n ∧ i = .int .i64 k ∧ Below W.heap.size W wr) (fun i _ => n - (intOf i).toNat)
  case atStart => exact ⟨0, Nat.zero_le _, rfl, Below.refl _ _⟩
  case round =>
    obtain ⟨k, hk, rfl, B⟩ := hrel
    have X3 := (B.cell (p := ⟨w.heap.size, 3, none⟩) (by show w.heap.size < _; omega)).trans x3
    have Y3 := (B.cell (p := ⟨w.heap.size + 1, 3, none⟩) hz).trans y3
    by_cases hlt : k < n
    · have hkl : k < L.length := by have := HN.out; omega
      obtain ⟨b, off, rfl, _, p0, p1⟩ := (g1.later B) k _ (List.getElem?_eq_getElem hkl)
      obtain ⟨b2, off2, rfl, _, q0, q1⟩ := (g2.later B) k _ (List.getElem?_eq_getElem hkl)
      obtain ⟨x, hx⟩ : ∃ x, L[k] = x := ⟨_, rfl⟩
      rw [hx] at p0 p1 q0 q1
      have HX := Lib.hid hx; clear hx
      have i0 : (0 : Int) ≤ (k : Int) := by omega
      have i1 : (k : Int) < (n : Int) := by omega
      clear x3 y3
      go_wp2_with fail
      go_quiet (fail)
      go_wp2_with fail
      go_roundw
      case rel => exact ⟨k + 1, by omega, by go_num, below_drewN B _⟩
      case measure => simp [intOf]; omega
    · go_wp2_with fail
      go_ret
      exact ⟨rfl, hB.trans (B.mono hB.size)⟩
set_option maxHeartbeats 1000000 in
theorem refSame_eq (a1 a2 : Option Addr) (n c1 c2 term vote base bt : Nat) (snap : ByteArray) (L : List En) (hn : L.length = n) (hl : n ≤ 140737488351232) (w : World) (h1 : Ents w a1 L) (h2 : Ents w a2 L) :
    Calls Tryd.prog 11 #[.agg #[.int .u64 term, .int .u64 vote, .int .u64 base, .int .u64 bt, .string snap, .slice a1 n c1], .agg #[.int .u64 term, .int .u64 vote, .int .u64 base, .int .u64 bt, .string snap, .slice a2 n c2]] w fun e w' => e = .returned (.bool true) ∧ Below w.heap.size w w' := by
  have HN := Lib.hid hn; clear hn
  go_enter Tryd.func11, Tryd.ntmps11
  go_wp2_with fail
  have hB : Below w.heap.size w ((w.alloc (.cells #[.int .u64 term, .int .u64 vote, .int .u64 base, .int .u64 bt, .string snap, .slice a1 n c1] 36)).alloc (.cells #[.int .u64 term, .int .u64 vote, .int .u64 base, .int .u64 bt, .string snap, .slice a2 n c2] 36)) := by go_grown
  refine (refSameLog_eq a1 a2 n c1 c2 base bt snap L HN.out hl _ (h1.later hB) (h2.later hB)).mono ?_
  rintro e w1 ⟨rfl, hb1⟩
  have x0 : w1.cell? ⟨w.heap.size, 0, none⟩ = some (.int .u64 term) := (hb1.cell (p := ⟨w.heap.size, 0, none⟩) (by simp; omega)).trans (by simp [go_sem])
  have x1 : w1.cell? ⟨w.heap.size, 1, none⟩ = some (.int .u64 vote) := (hb1.cell (p := ⟨w.heap.size, 1, none⟩) (by simp; omega)).trans (by simp [go_sem])
  have y0 : w1.cell? ⟨w.heap.size + 1, 0, none⟩ = some (.int .u64 term) := (hb1.cell (p := ⟨w.heap.size + 1, 0, none⟩) (by simp)).trans (by simp [go_sem])
  have y1 : w1.cell? ⟨w.heap.size + 1, 1, none⟩ = some (.int .u64 vote) := (hb1.cell (p := ⟨w.heap.size + 1, 1, none⟩) (by simp)).trans (by simp [go_sem])
  have B1 := hB.trans (hb1.mono hB.size)
  clear hb1 hB
  go_wp2_with fail
  go_ret
  exact ⟨rfl, B1⟩
theorem refLast_any (a : Option Addr) (n c base bt : Nat) (snap : ByteArray) (w : World) (hb : base ≤ 1099511627776) (hn : n ≤ 1048576) :
    Calls Tryd.prog 27 #[.agg #[.int .u64 base, .int .u64 bt, .string snap, .slice a n c]] w fun e w' => e = .returned (.int .u64 (base + n : Nat)) ∧ Below w.heap.size w w' := by
  go_enter Tryd.func27, Tryd.ntmps27
  go_wp2_with fail
  go_ret
  exact ⟨by simp, (Below.refl _ _).alloc (Nat.le_refl _) _⟩
end Go.Proofs.YtjbhnkigbobhiaaDoor
