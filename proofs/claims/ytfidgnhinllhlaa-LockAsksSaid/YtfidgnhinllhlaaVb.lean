/- Locks and transactions in memory; who is elder, who is in a list, what is in the way: the document's. -/
import Derived.Test.YtfidgnhinllhlaaVa
import Derived.Test.YtfidgnhinllhlaaRa
import Derived.Deep.QuietTactic
import Derived.BigQuiet
import Derived.Deep.CutBlock
import Derived.Deep.DeepCutAuto
import Derived.Deep.RegionHeld3
namespace Go.Proofs.Ytfidgnhinllhlaa
open Go.RowKit

def txC (x : Tx) : List Value := [.int .u64 (x.age : Nat), .int .u64 (x.id : Nat)]
def hoC (x : Ho) : List Value := [.string x.key, .int .u64 (x.t.age : Nat), .int .u64 (x.t.id : Nat), .bool x.wr]
@[reducible] def txV (x : Tx) : Value := .agg #[.int .u64 (x.age : Nat), .int .u64 (x.id : Nat)]
@[reducible] def hoV (x : Ho) : Value := .agg #[.string x.key, .int .u64 (x.t.age : Nat), .int .u64 (x.t.id : Nat), .bool x.wr]
/-- Transactions in memory, locks in memory. -/
abbrev Txs (w : World) (a : Option Addr) (L : List Tx) : Prop := Rw 2 txC w a L
abbrev Hos (w : World) (a : Option Addr) (L : List Ho) : Prop := Rw 4 hoC w a L
theorem Txs.cells {w : World} {a : Option Addr} {L : List Tx} (h : Txs w a L) {k : Nat} {x : Tx} (hx : L[k]? = some x) : ∃ b off, a = some ⟨b, off, none⟩ ∧ b < w.heap.size ∧ w.cell? ⟨b, off + k * 2, none⟩ = some (.int .u64 (x.age : Nat)) ∧ w.cell? ⟨b, off + k * 2 + 1, none⟩ = some (.int .u64 (x.id : Nat)) := by
  obtain ⟨b, off, e, hb, c⟩ := h k x hx
  exact ⟨b, off, e, hb, c 0 _ rfl, c 1 _ rfl⟩
theorem Hos.cells {w : World} {a : Option Addr} {L : List Ho} (h : Hos w a L) {k : Nat} {x : Ho} (hx : L[k]? = some x) : ∃ b off, a = some ⟨b, off, none⟩ ∧ b < w.heap.size ∧ w.cell? ⟨b, off + k * 4, none⟩ = some (.string x.key) ∧ w.cell? ⟨b, off + k * 4 + 1, none⟩ = some (.int .u64 (x.t.age : Nat)) ∧ w.cell? ⟨b, off + k * 4 + 2, none⟩ = some (.int .u64 (x.t.id : Nat)) ∧ w.cell? ⟨b, off + k * 4 + 3, none⟩ = some (.bool x.wr) := by
  obtain ⟨b, off, e, hb, c⟩ := h k x hx
  exact ⟨b, off, e, hb, c 0 _ rfl, c 1 _ rfl, c 2 _ rfl, c 3 _ rfl⟩
theorem ba_ne {a b : ByteArray} (h : ¬ a = b) : (a == b) = false := by
  have h4 : ¬ a.toList = b.toList := fun e => by
    rw [ByteArray.toList_eq, ByteArray.toList_eq] at e
    exact h (ByteArray.ext (by simpa using e))
  rw [beq_toListBytes]
  simpa using h4
theorem ba_ne' {a b : ByteArray} (h : ¬ a = b) : (a.toList == b.toList) = false := by rw [← beq_toListBytes]; exact ba_ne h
theorem int_ne {a b : Nat} (h : ¬ a = b) : ((a : Int) == (b : Int)) = false := by simp; omega
set_option maxHeartbeats 1000000 in
theorem rElder_any (a b : Tx) (w : World) : Calls Try.prog 21 #[txV a, txV b] w fun e w' => e = .returned (.bool (eldT a b)) ∧ Below w.heap.size w w' := by
  obtain ⟨a1, a2⟩ := a
  obtain ⟨b1, b2⟩ := b
  obtain ⟨r, hr⟩ : ∃ r, eldT ⟨a1, a2⟩ ⟨b1, b2⟩ = r := ⟨_, rfl⟩
  rw [hr]
  have HW := Lib.hid (show Below w.heap.size w ((w.alloc (.cells #[.int .u64 (a1 : Nat), .int .u64 (a2 : Nat)] 25)).alloc (.cells #[.int .u64 (b1 : Nat), .int .u64 (b2 : Nat)] 25)) by go_grown)
  by_cases h : a1 = b1
  · subst h
    by_cases h2 : a2 < b2
    · obtain rfl : r = true := by rw [← hr]; simp [eldT, h2]
      have g : (a2 : Int) < (b2 : Int) := by omega
      clear hr
      go_enter Try.func21, Try.ntmps21
      go_wp2_with fail
      go_ret
      exact ⟨by first | rfl | simp, HW.out⟩
    · obtain rfl : r = false := by rw [← hr]; simp [eldT, h2]
      have g : ¬ (a2 : Int) < (b2 : Int) := by omega
      clear hr
      go_enter Try.func21, Try.ntmps21
      go_wp2_with fail
      go_ret
      exact ⟨by first | rfl | simp, HW.out⟩
  · have g0 := int_ne h
    by_cases h2 : a1 < b1
    · obtain rfl : r = true := by rw [← hr]; simp [eldT, h, h2]
      have g : (a1 : Int) < (b1 : Int) := by omega
      clear hr
      go_enter Try.func21, Try.ntmps21
      go_wp2_with fail
      go_ret
      exact ⟨by first | rfl | simp, HW.out⟩
    · obtain rfl : r = false := by rw [← hr]; simp [eldT, h, h2]
      have g : ¬ (a1 : Int) < (b1 : Int) := by omega
      clear hr
      go_enter Try.func21, Try.ntmps21
      go_wp2_with fail
      go_ret
      exact ⟨by first | rfl | simp, HW.out⟩
end Go.Proofs.Ytfidgnhinllhlaa
