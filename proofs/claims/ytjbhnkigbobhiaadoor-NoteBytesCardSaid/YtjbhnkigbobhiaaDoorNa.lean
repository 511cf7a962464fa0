/- An argument that is a note: what its reading gives. -/
import Derived.Test.YtjbhnkigbobhiaaDoorAn
import Derived.Lib.SmallJoins
namespace Go.Proofs.YtjbhnkigbobhiaaDoor
open Go.ChangeShapes Go.WideShapes Go.ChangeAt Go.RowKit Go.Deep Go.Joins

set_option maxRecDepth 100000 in
theorem noteArg_of {H : Type} {enc : TypeId × Value → H} {W : World} {r : Reach} {b0 : Nat} {v : Value} {d : DataW H} {p : List MemPlace} {ts : List TypeId} {ds : List (DataW H)} {j : Nat}
    (hv : Value.okWide Tryd.prog W r b0 24 v) (h : DataW.Trod enc Tryd.prog W 0 (fun _ => true) true 24 v d p)
    (hZ : (DataW.weightsEach Tryd.prog ts ds).all (· ≤ reachBytes) = true) (hj : ts[j]? = some 24) (hd : ds[j]? = some d) :
    ∃ (k : Int) (i t u : Nat) (s : ByteArray), v = .agg #[.int .i64 k, .int .u64 i, .int .u64 t, .int .u64 u, .string s] ∧ s.size ≤ 140737488351232 := by
  obtain ⟨cs, rfl, hsz⟩ := okWide_struct Tryd.underlying24 hv
  rw [cellsNt] at hsz
  obtain ⟨fuel, hf⟩ := h
  obtain ⟨y0, y1, y2, y3, y4, n1, hy, t0, t1, t2, t3, t4⟩ := trod_struct5 Tryd.underlying24 hf
  obtain ⟨l⟩ := cs
  match l, hsz with
  | [c0, c1, c2, c3, c4], _ =>
      obtain ⟨k, e0, _, _⟩ := DataW.trod_int Tryd.underlying3 t0
      obtain ⟨zi, e1, _, wi⟩ := DataW.trod_int Tryd.underlying22 t1
      obtain ⟨zt, e2, _, wt⟩ := DataW.trod_int Tryd.underlying22 t2
      obtain ⟨zv, e3, _, wv⟩ := DataW.trod_int Tryd.underlying22 t3
      obtain ⟨s, e4, h4, _⟩ := DataW.trod_string Tryd.underlying9 t4
      simp only [cellsInt, cellsU64, cellsString, Value.cells] at e0 e1 e2 e3 e4
      simp at e0 e1 e2 e3 e4
      subst e0 e1 e2 e3 e4
      obtain ⟨ni, rfl, _⟩ := u64_nat wi
      obtain ⟨nt, rfl, _⟩ := u64_nat wt
      obtain ⟨nv, rfl, _⟩ := u64_nat wv
      refine ⟨k, ni, nt, nv, s, rfl, ?_⟩
      have hd2 : d = .agg [y0.1, y1.1, y2.1, y3.1, y4.1] := hy
      have h := List.all_eq_true.1 hZ _ (DataW.weights_mem_each hj hd s.data.toList.length (by
        rw [hd2, h4]; simp [DataW.weights, DataW.weightsEach, Tryd.underlying24]))
      rw [Array.length_toList] at h; exact of_decide_eq_true h
end Go.Proofs.YtjbhnkigbobhiaaDoor
