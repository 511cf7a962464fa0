/- Arguments of stage 8: what RaftSends is asked of. -/
import Derived.Test.YtdcpiaoadbbdoaaGreatBulk
import Derived.Test.YtdcpiaoadbbdoaaGreatRo
set_option maxRecDepth 100000
set_option maxHeartbeats 16000000
namespace Go.Proofs.YtdcpiaoadbbdoaaGreat
open Go.ChangeShapes Go.WideShapes Go.ChangeAt Go.RowKit Go.Deep Go.Joins

theorem cInRaftSends : Tryz.prog.cellsOf 48 = 10 := by kernel_rfl
theorem inArgRaftSends {H : Type} {enc : TypeId × Value → H} {W : World} {r : Reach} {b0 : Nat} {v : Value} {d : DataW H} {p : List MemPlace} {ts : List TypeId} {ds : List (DataW H)} {j : Nat}
 (hv : Value.okWide Tryz.prog W r b0 48 v) (h : DataW.Trod enc Tryz.prog W 0 (fun _ => true) true 48 v d p) (hlt : ∀ x ∈ p, x.block < W.heap.size)
 (hZ : (DataW.weightsEach Tryz.prog ts ds).all (· ≤ reachBytes) = true) (hj : ts[j]? = some 48) (hd : ds[j]? = some d) : ∃ id c s1 s2 t vt g sg A sa, InArg W v id c s1 s2 t vt g sg A sa := by
 obtain ⟨cs, rfl, hsz⟩ := okWide_struct Tryz.underlying48 hv
 rw [cInRaftSends] at hsz
 obtain ⟨fuel, hf0⟩ := h
 have hsm : Sm 48 d := sized_of hZ hj hd
 obtain ⟨n, hf⟩ := open_st Tryz.underlying48 hf0 hlt
 obtain ⟨z0, h0, l0, w0, k0⟩ := hf 0 _ rfl
 obtain ⟨z1, h1, l1, w1, k1⟩ := hf 1 _ rfl
 obtain ⟨z2, h2, l2, w2, k2⟩ := hf 2 _ rfl
 obtain ⟨z3, h3, l3, w3, k3⟩ := hf 3 _ rfl
 obtain ⟨l⟩ := cs
 match l, hsz with
 | [c0, c1, c2, c3, c4, c5, c6, c7, c8, c9], _ =>
  simp only [List.getElem_toArray, List.getElem_cons_zero, List.getElem_cons_succ, cU64, cCf, cStb, cAcs, Value.cells] at h0 h1 h2 h3
  obtain ⟨x0, e0, b0⟩ := rdU64 (cs := [c0]) (by simpa using h0)
  obtain ⟨cf, s1, s2, hc⟩ := rdCf (cs := [c1, c2]) rfl (by simpa using h1) l1
  obtain ⟨t, vt, g, sg, hs⟩ := rdSt (cs := [c3, c4, c5, c6, c7, c8]) rfl (by simpa using h2) l2
  obtain ⟨sa, A, rfl, ma, ga⟩ := rdAcs (c0 := c9) (by simpa using h3) l3
  have ec := hc.cells
  have es := hs.cells
  simp only [List.cons.injEq, and_true] at e0 ec es
  subst e0
  obtain ⟨rfl, rfl⟩ := ec
  obtain ⟨rfl, rfl, rfl, rfl, rfl, rfl⟩ := es
  have hlg := hs.log
  have k1' := hc.sz (w1 hsm)
  have k2' := hlg.sz (w2 hsm)
  have k3' := ga (w3 hsm)
  exact ⟨x0, cf, s1, s2, t, vt, g, sg, A, sa, ⟨rfl, b0, hc.V, hc.L, by omega, by omega, hlg.E, hlg.ec, hlg.em, by omega, k2'.1, fun x hx => (k2'.2.2 x hx).2, ma, k3'.1, k3'.2⟩⟩
end Go.Proofs.YtdcpiaoadbbdoaaGreat
