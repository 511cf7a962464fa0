/- Laws on acts: what they stand on. -/
import Derived.Test.YtdcpiaoadbbdoaaGreatBulk
import Derived.Test.YtdcpiaoadbbdoaaGreatRo
import Derived.Test.YtdcpiaoadbbdoaaGreatQz
import Derived.Test.YtdcpiaoadbbdoaaGreatQhe
import Derived.Test.YtdcpiaoadbbdoaaGreatQof
set_option maxRecDepth 100000
set_option maxHeartbeats 16000000
namespace Go.Proofs.YtdcpiaoadbbdoaaGreat
open Go.RowKit

theorem ocAc : Oc 46 := ⟨fun w => by kernel_rfl, fun w => by kernel_rfl⟩
theorem run_load_el {w : World} {T : TypeId} {n b i : Nat} (M : List Value) (hS : StT T n) (hn : M.length = n) (hc : ∀ j u, M[j]? = some u → w.cell? ⟨b, i + j, none⟩ = some u) : (loadVar T ⟨b, i, none⟩).run Tryz.prog w = .ok (.agg M.toArray) w := by
 subst hn
 have hl : (loadCells ⟨b, i, none⟩ M.length).run Tryz.prog w = .ok M.toArray w := by
  refine run_loadCells_list (P := Tryz.prog) w ⟨b, i, none⟩ M (fun j v hv => ?_)
  rw [addG']; exact hc j v hv
 simp [loadVar, Sem.run_bind, hS.agg, hS.size, hl]
theorem exec_load_el {o : Oper} {a : Act} {w : World} {T : TypeId} {n : Nat} (x : Operand) (ho : o.op = .load T x) {b i : Nat} (hx : a.eval x = .pointer (some ⟨b, i, none⟩)) (M : List Value) (hS : StT T n) (hn : M.length = n) (hc : ∀ j u, M[j]? = some u → w.cell? ⟨b, i + j, none⟩ = some u) : (execOp a.eval o).run Tryz.prog w = .ok (.value (.agg M.toArray)) w := by
 unfold execOp
 simp only [ho, hx, Instr.loadAt, Instr.sureAddr, Sem.run_bind, Sem.run_pure, Result.andThen_ok, run_load_el M hS hn hc]
theorem wpList_load_el {w : World} {ops : Array Oper} {rest : List Oper} {o : Oper} {a : Act} {Q : Exit → Act → World → Prop} {T : TypeId} {n : Nat} (hgd : o.guard = none) (x : Operand) (ho : o.op = .load T x) {b i : Nat} (hx : a.eval x = .pointer (some ⟨b, i, none⟩)) (M : List Value) (hS : StT T n) (hn : M.length = n) (hc : ∀ j u, M[j]? = some u → w.cell? ⟨b, i + j, none⟩ = some u) (h : wpList Tryz.prog ops Q rest (a.put o.dst (.agg M.toArray)) w) : wpList Tryz.prog ops Q (o :: rest) a w :=
 wpList_plain hgd fun K hK => by
  unfold Oper.wp
  rw [exec_load_el x ho hx M hS hn hc]
  exact hK _ _ h
theorem act_sub (x : Ac) (i n : Nat) (M : List Value) (hM : ((acC x).drop i).take n = M) (hn : M.length = n) {w : World} {b q : Nat} (hc : ∀ j u, (acC x)[j]? = some u → w.cell? ⟨b, q + j, none⟩ = some u) : ∀ j u, M[j]? = some u → w.cell? ⟨b, q + i + j, none⟩ = some u := fun j u hu => by
 have hj := (List.getElem?_eq_some_iff.1 hu).1
 rw [← hM, List.getElem?_take_of_lt (by omega), List.getElem?_drop] at hu
 rw [Nat.add_assoc]
 exact hc _ u hu
def Yes (w : World) (e : Ending) (w' : World) : Prop := e = .returned (.bool true) ∧ Below w.heap.size w w'
theorem exec_load_cell {o : Oper} {a : Act} {w : World} {T : TypeId} (x : Operand) (ho : o.op = .load T x) {g i : Nat} (hx : a.eval x = .pointer (some ⟨g, i, none⟩)) (hA : Oc T) {v : Value} (hc : w.cell? ⟨g, i, none⟩ = some v) : (execOp a.eval o).run Tryz.prog w = .ok (.value v) w := by
 have hr : (loadVar T ⟨g, i, none⟩).run Tryz.prog w = .ok v w := by
  simp only [loadVar, Sem.run_bind, hA.na, Result.andThen_ok]
  simp [go_sem, hc]
 unfold execOp
 simp only [ho, hx, Instr.loadAt, Instr.sureAddr, Sem.run_bind, Sem.run_pure, Result.andThen_ok, hr]
end Go.Proofs.YtdcpiaoadbbdoaaGreat
