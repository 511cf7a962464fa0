/- An argument that is a slice of acts: what its reading gives. -/
import Derived.Test.YtifldjbpomnfaaaLlasts
import Derived.Deep.Slices
import Derived.Deep.Fields
import Derived.Deep.Strs
import Derived.SizedLaws
import Derived.OpenShut
import Derived.ProofKit
namespace Go.Proofs.Ytifldjbpomnfaaa
open Go.ChangeShapes Go.WideShapes Go.ChangeAt Go.RowKit Go.Deep

theorem cellsAct : Try.prog.cellsOf 40 = 3 := by kernel_rfl
theorem bytesAct : Try.prog.bytesOf 40 = 32 := by kernel_rfl
theorem cellsInt : Try.prog.cellsOf 3 = 1 := by kernel_rfl
theorem cellsString : Try.prog.cellsOf 9 = 1 := by kernel_rfl
theorem mem_weightsAll {H : Type} {P : Program} {e : TypeId} {n : Nat} {d : DataW H} (hn : n ∈ d.weights P e) : ∀ l : List (DataW H), d ∈ l → n ∈ DataW.weightsAll P e l
  | [], h => by cases h
  | x :: l, h => by
    simp only [DataW.weightsAll, List.mem_append]
    rcases List.mem_cons.1 h with rfl | h
    · exact .inl hn
    · exact .inr (mem_weightsAll hn l h)
theorem acRow_of {H : Type} {enc : TypeId × Value → H} {W : World} {a : Option Addr} {len cap : Nat} {d : DataW H} {p : List MemPlace} {ts : List TypeId} {ds : List (DataW H)} {j : Nat}
    (h : DataW.Trod enc Try.prog W 0 (fun _ => true) true 38 (.slice a len cap) d p) (hlt : ∀ x ∈ p, x.block < W.heap.size)
    (hZ : (DataW.weightsEach Try.prog ts ds).all (· ≤ reachBytes) = true) (hj : ts[j]? = some 38) (hd : ds[j]? = some d) : ∃ L, AcRow W a len L := by
  obtain ⟨fuel, hf⟩ := h
  rcases open_slice Try.underlying38 hf with ⟨hcs, hx⟩ | ⟨a', len', cap', m, n, D, Pl, hcs, _, hl, hm, hmm, hx, hi⟩
  · simp [Value.cells] at hcs
    obtain ⟨rfl, rfl, rfl⟩ := hcs
    exact ⟨[], rfl, by omega, by simp⟩
  · simp [Value.cells] at hcs
    obtain ⟨rfl, rfl, rfl⟩ := hcs
    simp only [Prod.mk.injEq] at hx
    obtain ⟨rfl, rfl⟩ := hx
    simp only [if_true] at hmm
    subst hmm
    have hreach := sized_slice hZ hj hd Try.underlying38
    rw [bytesAct] at hreach
    simp only [List.length_map, List.length_range, reachBytes] at hreach
    obtain ⟨b, off, spot⟩ := a'
    have hspot : 0 < len → spot = none := by
      intro h0
      obtain ⟨cs', hc, _⟩ := hi 0 (by omega)
      rw [cellsAct] at hc
      obtain ⟨_, hcl, hat⟩ := World.cells?_some hc
      have s0 := hat 0 (by omega)
      match cs', hcl with
      | [c0, c1, c2], _ => simpa [Addr.add] using World.cell?_spot s0
    have hone : ∀ i, ∃ x : Ac, i < len → x.s.size ≤ 140737488351232 ∧ x.n ≤ 9223372036854775807 ∧ spot = none ∧ b < W.heap.size ∧
        W.cell? ⟨b, off + i * 3, none⟩ = some (.int .i64 x.k) ∧ W.cell? ⟨b, off + i * 3 + 1, none⟩ = some (.string x.s) ∧ W.cell? ⟨b, off + i * 3 + 2, none⟩ = some (.int .i64 x.n) := by
      intro i
      by_cases hil : i < len
      · obtain ⟨cs', hc, ht⟩ := hi i (by omega)
        rw [cellsAct] at hc
        obtain ⟨_, hcl, hat⟩ := World.cells?_some hc
        obtain ⟨y0, y1, y2, n', hy, _, t0, t1, t2⟩ := trod_struct3 Try.underlying40 ht
        match cs', hcl with
        | [c0, c1, c2], _ =>
          obtain ⟨k, e0, rfl, _⟩ := DataW.trod_int Try.underlying3 t0
          obtain ⟨s, e1, rfl, _⟩ := DataW.trod_string Try.underlying9 t1
          obtain ⟨q, e2, rfl, wq⟩ := DataW.trod_int Try.underlying3 t2
          simp only [cellsInt, cellsString] at e0 e1 e2
          simp at e0 e1 e2
          subst e0 e1 e2
          have s0 := hat 0 (by omega)
          have s1 := hat 1 (by omega)
          have s2 := hat 2 (by omega)
          obtain rfl := hspot (by omega)
          rw [add_plain, add_plain] at s0 s1 s2
          simp only [Prod.mk.injEq] at hy
          refine ⟨⟨k, s, q⟩, fun _ => ⟨?_, (bounds_i64 wq).2, rfl, ?_, ?_, ?_, ?_⟩⟩
          · have hmem : s.data.toList.length ∈ (D i).weights Try.prog 40 := by rw [hy.1]; simp [DataW.weights, DataW.weightsEach, Try.underlying40]
            have h := List.all_eq_true.1 hZ _ (DataW.weights_mem_each hj hd s.data.toList.length (by
              simp only [DataW.weights, Try.underlying38, List.mem_cons, List.mem_append]
              exact .inr (.inl (mem_weightsAll hmem _ (List.mem_map.2 ⟨i, List.mem_range.2 hil, rfl⟩)))))
            rw [Array.length_toList] at h; exact of_decide_eq_true h
          · exact hlt (.cell b off) (List.mem_append.2 (.inl (MemPlace.mem_row.2 ⟨0, by rw [cellsAct]; omega, by simp⟩)))
          · simpa using s0
          · simpa using s1
          · simpa using s2
      · exact ⟨⟨0, ⟨#[]⟩, 0⟩, fun h => absurd h hil⟩
    refine ⟨(List.range len).map fun i => Classical.choose (hone i), by simp, by omega, fun i x hx => ?_⟩
    have hil : i < len := by have := (List.getElem?_eq_some_iff.1 hx).1; simpa using this
    have hx' : x = Classical.choose (hone i) := by
      rw [List.getElem?_map, List.getElem?_range hil] at hx
      exact (Option.some.inj hx).symm
    obtain ⟨g1, g2, g3, g4, g5, g6, g7⟩ := Classical.choose_spec (hone i) hil
    rw [← hx'] at g1 g2 g5 g6 g7
    exact ⟨g1, g2, b, off, by rw [g3], g4, g5, g6, g7⟩
end Go.Proofs.Ytifldjbpomnfaaa
