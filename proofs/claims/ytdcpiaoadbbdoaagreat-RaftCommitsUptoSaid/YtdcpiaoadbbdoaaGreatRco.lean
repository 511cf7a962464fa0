/- RaftCommits: its arguments. -/
import Derived.Test.YtdcpiaoadbbdoaaGreatBulk
import Derived.Test.YtdcpiaoadbbdoaaGreatRo
import Derived.Test.YtdcpiaoadbbdoaaGreatQlco
set_option maxRecDepth 100000
set_option maxHeartbeats 16000000
namespace Go.Proofs.YtdcpiaoadbbdoaaGreat
open Go.ChangeShapes Go.WideShapes Go.ChangeAt Go.RowKit Go.Deep Go.Joins

structure NdArg (W : World) (v : Value) (p : Pn) (d : Ad) : Prop where
 val : v = ndV p d
 mem : NdM W.heap.size W p d
 vl : p.c.V.length ≤ 140737488351232
 ll : p.c.L.length ≤ 140737488351232
 bd : sndB p = true → Bd p
 el : p.g.L.length ≤ 1048576
 vo : p.voices.length * 16 ≤ 140737488352900
 nx : p.next.length * 16 ≤ 140737488352900
 mt : p.mat.length * 16 ≤ 140737488352000
theorem cNode : Tryz.prog.cellsOf 34 = 19 := by kernel_rfl
theorem cMess : Tryz.prog.cellsOf 52 = 10 := by kernel_rfl
theorem nodeArgU_of {H : Type} {enc : TypeId × Value → H} {W : World} {r : Reach} {b0 : Nat} {v : Value} {d : DataW H} {p : List MemPlace}
 (hv : Value.okWide Tryz.prog W r b0 34 v) (h : DataW.Trod enc Tryz.prog W 0 (fun _ => true) true 34 v d p) (hlt : ∀ x ∈ p, x.block < W.heap.size) (hk : Rows.uptoBulk d ≤ 1048576) : ∃ P D, NdArg W v P D := by
 obtain ⟨cs, rfl, hsz⟩ := okWide_struct Tryz.underlying34 hv
 rw [cNode] at hsz
 obtain ⟨fuel, hf0⟩ := h
 obtain ⟨l⟩ := cs
 obtain ⟨P, D, hr⟩ := rdNd (cs := l) (by simpa using hsz) (by simpa [Value.cells] using hf0) hlt
 have hc := hr.cells
 subst hc
 have hb := hr.bulk
 have hs := hr.snapb
 simp only at hb hs
 refine ⟨P, D, ⟨rfl, hr.mem, by omega, by omega, fun h => ?_, by omega, by omega, by omega, by omega⟩⟩
 unfold sndB at h
 rw [Bool.and_eq_true, decide_eq_true_iff] at h
 exact ⟨hr.id, h.1, hr.term, hr.vote, by omega, hr.bt, by omega, by omega, fun x hx => ⟨(hr.dat x hx).1, by have := (hr.dat x hx).2; simp only at this; omega⟩, hr.commit, by omega, hr.ids, by omega, by omega, hr.marks, hr.nexts⟩
structure MgArg (W : World) (v : Value) (m : Mg) : Prop where
 val : v = mgV m
 E : Ents W m.at_ m.es
 bm : Bm m
 el : m.es.length ≤ 1048576
theorem msgArgU_of {H : Type} {enc : TypeId × Value → H} {W : World} {r : Reach} {b0 : Nat} {v : Value} {d : DataW H} {p : List MemPlace}
 (hv : Value.okWide Tryz.prog W r b0 52 v) (h : DataW.Trod enc Tryz.prog W 0 (fun _ => true) true 52 v d p) (hlt : ∀ x ∈ p, x.block < W.heap.size) (hk : Rows.uptoBulk d ≤ 1048576) : ∃ m, MgArg W v m := by
 obtain ⟨cs, rfl, hsz⟩ := okWide_struct Tryz.underlying52 hv
 rw [cMess] at hsz
 obtain ⟨fuel, hf0⟩ := h
 obtain ⟨l⟩ := cs
 obtain ⟨m, hr⟩ := rdMg (cs := l) (by simpa using hsz) (by simpa [Value.cells] using hf0) hlt
 have hc := hr.cells
 subst hc
 have hb := hr.bulk
 simp only at hb
 exact ⟨m, ⟨rfl, hr.E, hr.lo hk, by omega⟩⟩
end Go.Proofs.YtdcpiaoadbbdoaaGreat
