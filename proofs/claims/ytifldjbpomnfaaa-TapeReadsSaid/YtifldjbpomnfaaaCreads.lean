/-
  TapeReads (ferrule/ferrulelaw03): for every input the law returns true, and each argument reads afterwards as it read before.
-/
import Derived.Test.YtifldjbpomnfaaaRows
import Derived.Test.YtifldjbpomnfaaaLreads
import Derived.Lib.SmallJoins
import Derived.WalkKit
import Derived.ProofKit
import Derived.OpenShut
import Derived.ShutString
import Derived.ChangeOld
import Derived.SizedLaws
namespace Go.Proofs.Ytifldjbpomnfaaa.cTapeReads
open Go.ChangeShapes Go.WideShapes Go.ChangeAt Go.RowKit
open Go.ChangeMaps (open_string shut_string)

theorem own : ownKnob Try.prog.godebug = none := by kernel_rfl
theorem laidOut : laidOutB Try.prog = true := by kernel_rfl
theorem contract (H : Type) (enc : TypeId × Value → H) (W : World) (base : Nat) (args : Array Value) (ds gs : List (DataW H)) (before : List MemPlace)
    (hval : ∀ (j : Nat) t v, Try.f5.params[j]? = some t → args[j]? = some v → Value.okWide Try.prog W .any base t v)
    (hW : DataW.Whole enc Try.prog Try.f5.params.toList Rows.tapeReadsSpec.vars false W args.toList ds gs before)
    (hZ : (DataW.weightsEach Try.prog (Try.f5.params.toList ++ Rows.tapeReadsSpec.plain.varTypes Try.prog) (ds ++ gs)).all (· ≤ reachBytes) = true) :
    Calls Try.prog 5 args W fun e W' => ∃ v, e = .returned v ∧ Rows.tapeReadsSpec.post enc Try.prog Try.f5 false true false false W args v W' := by
  have hW' := hW
  obtain ⟨p, q, hA0, hV, rfl, _, _⟩ := hW
  have hA : DataW.TrodAll enc Try.prog W 0 (fun _ => true) true Try.f5.params.toList args.toList ds p := hA0
  rw [Try.params5] at hA hval
  obtain ⟨v0, vs0, d0, ds0, p0, q0, hargs0, rfl, rfl, h0, r0⟩ := trodAll_cons hA
  obtain ⟨rfl, rfl, rfl⟩ := trodAll_nil r0
  obtain rfl : args = #[v0] := by cases args; simp_all
  obtain ⟨rfl, rfl⟩ := trodVars_none hV
  have k0 := h0
  have lt0 : ∀ x ∈ p0, x.block < W.heap.size := by obtain ⟨m, hm⟩ := k0; exact DataW.trod_lt m _ _ _ hm
  obtain ⟨tc0, tc1, tc2, tc3, ty0, ty1, ty2, ty3, tm, rfl, rfl, rfl, th0, th1, th2, th3⟩ := Go.Joins.open_agg4 Try.underlying23 (by kernel_rfl) (by kernel_rfl) (hval 0 23 v0 rfl rfl) h0
  obtain ⟨ta, te0, rfl, _⟩ := DataW.trod_string Try.underlying9 th0
  obtain ⟨tb, te1, rfl, _⟩ := DataW.trod_string Try.underlying9 th1
  obtain ⟨tp, te2, rfl, wf_tp⟩ := DataW.trod_int Try.underlying3 th2
  obtain ⟨to, te3, rfl⟩ := DataW.trod_bool Try.underlying4 th3
  obtain rfl : tc0 = .string ta := by simpa using te0
  obtain rfl : tc1 = .string tb := by simpa using te1
  obtain rfl : tc2 = .int .i64 tp := by simpa using te2
  obtain rfl : tc3 = .bool to := by simpa using te3
  have z_ta : ta.size ≤ 140737488351232 := by
    have h := List.all_eq_true.1 hZ _ (DataW.weights_mem_each (j := 0) (t := 23) (by kernel_rfl) rfl ta.data.toList.length (by simp [DataW.weights, DataW.weightsEach, Try.underlying23]))
    rw [Array.length_toList] at h; exact of_decide_eq_true h
  have z_tb : tb.size ≤ 140737488351232 := by
    have h := List.all_eq_true.1 hZ _ (DataW.weights_mem_each (j := 0) (t := 23) (by kernel_rfl) rfl tb.data.toList.length (by simp [DataW.weights, DataW.weightsEach, Try.underlying23]))
    rw [Array.length_toList] at h; exact of_decide_eq_true h
  clear hA0
  refine (law_TapeReads ta tb tp to (by omega) W).mono fun e W' ⟨he, bel⟩ => ?_
  subst he
  exact ⟨_, rfl, _, _, _, [], _, [], hW', trodAll_mk1 (shut_bool Try.underlying4 _), (trodAll_cons_mk (Below.trod laidOut (by kernel_rfl) (of_decide_eq_true (by kernel_rfl)) k0 bel lt0) trodAll_mk0), rfl, bel.frame _, fun h => by cases h⟩

set_option maxRecDepth 100000 in
theorem lifted (os : Os) (started : os.Started) (H : Type) (enc : TypeId × Value → H) :
    ReturnsInHanded {} Try.checked os 5 .any (Rows.tapeReadsSpec.pre6 enc Try.prog Try.f5 Rows.tapeReadsRow.domain false) (Rows.tapeReadsSpec.post enc Try.prog Try.f5 false true false false) := by
  refine returnsInHanded_of_change_sized (C := Try.checked) own started (by kernel_rfl) Try.func5
    (ChangeSpec.witness6 (enc := enc) (C := Try.checked) false ⟨#[], #[(.agg #[.string ⟨#[]⟩, .string ⟨#[]⟩, .int .i64 0, .bool false])], []⟩ 8 (by kernel_rfl) (by kernel_rfl) (by kernel_rfl) (by kernel_rfl)) ?_
  intro W base args ds gs before hval hW _ hZ _
  exact contract H enc W base args ds gs before hval hW hZ

theorem said : Rows.TapeReadsSaid :=
  OpenClaim.holds_of_wide 5 Try.f5 rfl rfl rfl rfl rfl rfl rfl ⟨rfl, rfl, rfl, rfl, rfl⟩ rfl rfl rfl rfl rfl (by kernel_rfl) Try.func5 (by kernel_rfl)
    (of_decide_eq_true (by kernel_rfl)) (by unfold Func.isWrapper; first | (rw [if_pos (by decide +kernel)]; kernel_rfl) | (rw [if_neg (by decide +kernel)]; exact ⟨rfl, rfl⟩))
    (fun os started H enc _ => lifted os started H enc)
end Go.Proofs.Ytifldjbpomnfaaa.cTapeReads
