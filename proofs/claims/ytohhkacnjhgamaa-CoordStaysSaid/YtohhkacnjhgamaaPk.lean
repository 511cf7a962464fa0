/- Transactions as keys of a map. -/
import Derived.Test.YtohhkacnjhgamaaPd
import Derived.DeepKeys4
import Derived.Maps.OwnSet
namespace Go.Proofs.Ytohhkacnjhgamaa
open Go.RowKit Go.Maps

theorem laidOutL : laidOutB Try.prog = true := by kernel_rfl
theorem cu64L : Try.prog.cellsOf 25 = 1 := by kernel_rfl
theorem ctxL : Try.prog.cellsOf 27 = 2 := by kernel_rfl
theorem two_types : ∃ m, Try.prog.types.size = m + 2 := ⟨Try.prog.types.size - 2, by have : 1 < Try.prog.types.size := of_decide_eq_true (by kernel_rfl); omega⟩
theorem wf64 {i : Nat} (h : i < 18446744073709551616) : (Lit.int .u64 (i : Nat)).wf = true := by simp [Lit.wf, IntKind.min, IntKind.max, IntKind.signed, IntKind.bits]; omega

theorem keyedTx : Keyed Try.prog 27 :=
  Keyed.of_law (deep_law_laid laidOutL (m := 2) (by omega) (of_decide_eq_true (by kernel_rfl)) (by kernel_rfl) (by rw [Try.underlying27]))
theorem keyTypeTx : Try.prog.keyType 27 = true := by kernel_rfl
theorem formedTx {c0 c1 : Value} : (Value.agg #[c0, c1]).formed Try.prog 27 = true := by simp [Value.formed, Try.underlying27, ctxL]
theorem keyTx_some (t : Tx) (h : okX t) : (keyOf Try.prog 27 (txV t)).isSome = true := by
  have w1 := wf64 h.1
  have w2 := wf64 h.2
  obtain ⟨m, hm⟩ := two_types
  unfold keyOf txV
  rw [Try.underlying27]
  simp only [keyTypeTx, formedTx, Bool.and_self, ↓reduceIte, Option.isSome_map]
  unfold Program.keyLits
  rw [Try.underlying27, hm]
  simp [Program.keyLits, Try.underlying25, ctxL, cu64L, Value.cells, w1, w2]
/-- A transaction's key. -/
noncomputable def ktx (t : Tx) : Lit := (keyOf Try.prog 27 (txV t)).getD (.bool false)
theorem keyTx (t : Tx) (h : okX t) : keyOf Try.prog 27 (.agg #[.int .u64 (t.age : Nat), .int .u64 (t.id : Nat)]) = some (ktx t) := by
  have := keyTx_some t h
  unfold ktx
  cases hk : keyOf Try.prog 27 (txV t)
  · rw [hk] at this; cases this
  · rfl
set_option maxRecDepth 10000 in
theorem ktx_lit (t : Tx) (h : okX t) : WideAt.IsKeyLit (ktx t) := keyedTx.key (keyTx t h)
theorem ktx_ne {t u : Tx} (h : okX t) (h2 : okX u) (hne : ¬ t = u) : ktx t ≠ ktx u := fun e => by
  have h3 := keyTx u h2
  rw [← e] at h3
  have := keyedTx.inj (keyTx t h) h3
  obtain ⟨a, i⟩ := t
  obtain ⟨b, j⟩ := u
  injection this with this
  simp at this
  exact hne (by rw [show a = b by omega, show i = j by omega])

end Go.Proofs.Ytohhkacnjhgamaa
