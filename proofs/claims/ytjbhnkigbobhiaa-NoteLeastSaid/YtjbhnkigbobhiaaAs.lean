/- An argument that is a state: what its reading gives. -/
import Derived.Test.YtjbhnkigbobhiaaAn
import Derived.Lib.SmallJoins
namespace Go.Proofs.Ytjbhnkigbobhiaa
open Go.ChangeShapes Go.WideShapes Go.ChangeAt Go.RowKit Go.Deep Go.Joins

theorem cellsEn : Try.prog.cellsOf 56 = 2 := by kernel_rfl
theorem bytesEn : Try.prog.bytesOf 56 = 24 := by kernel_rfl
theorem cellsEns : Try.prog.cellsOf 30 = 1 := by kernel_rfl
theorem cellsLog : Try.prog.cellsOf 32 = 4 := by kernel_rfl
theorem cellsStable : Try.prog.cellsOf 34 = 6 := by kernel_rfl
/-- Entries in memory, out of their reading. -/
theorem enRow_of {H : Type} {enc : TypeId × Value → H} {W : World} {fuel : Nat} {c : Value} {y : DataW H × List MemPlace}
    (hf : DataW.trod enc Try.prog W 0 (fun _ => true) true fuel 30 [c] = some y) (hlt : ∀ x ∈ y.2, x.block < W.heap.size)
    (hw : ∀ q ∈ y.1.weights Try.prog 30, q ≤ 140737488351232) : ∃ a len cap L, c = .slice a len cap ∧ L.length = len ∧ len ≤ 140737488351232 ∧ (∀ x ∈ L, x.d.size ≤ 140737488351232 ∧ x.t < 18446744073709551616) ∧ Ents W a L := by
  obtain ⟨d, p⟩ := y
  rcases open_slice Try.underlying30 hf with ⟨hcs, hx⟩ | ⟨a', len, cap', m, n, D, Pl, hcs, _, hl, hm, hmm, hx, hi⟩
  · simp at hcs
    subst hcs
    exact ⟨none, 0, 0, [], rfl, rfl, by omega, by simp, fun j x hx => by simp at hx⟩
  · simp at hcs
    subst hcs
    simp only [Prod.mk.injEq] at hx
    obtain ⟨rfl, rfl⟩ := hx
    simp only [if_true] at hmm
    subst hmm
    simp only at hw hlt
    have hreach := hw (((List.range len).map D).length * Try.prog.bytesOf 56 + ((List.range (m - len)).map fun j => D (len + j)).length * Try.prog.bytesOf 56) (by
      simp only [DataW.weights, Try.underlying30, List.mem_cons]
      left; rw [Nat.add_mul])
    rw [bytesEn] at hreach
    simp only [List.length_map, List.length_range] at hreach
    obtain ⟨b, off, spot⟩ := a'
    have hspot : 0 < len → spot = none := by
      intro h0
      obtain ⟨cs', hc, _⟩ := hi 0 (by omega)
      rw [cellsEn] at hc
      obtain ⟨_, hcl, hat⟩ := World.cells?_some hc
      have s0 := hat 0 (by omega)
      match cs', hcl with
      | [c0, c1], _ => simpa [Addr.add] using World.cell?_spot s0
    have hone : ∀ i, ∃ x : En, i < len → (x.d.size ≤ 140737488351232 ∧ x.t < 18446744073709551616) ∧ spot = none ∧ b < W.heap.size ∧
        W.cell? ⟨b, off + i * 2, none⟩ = some (.int .u64 x.t) ∧ W.cell? ⟨b, off + i * 2 + 1, none⟩ = some (.string x.d) := by
      intro i
      by_cases hil : i < len
      · obtain ⟨cs', hc, ht⟩ := hi i (by omega)
        rw [cellsEn] at hc
        obtain ⟨_, hcl, hat⟩ := World.cells?_some hc
        obtain ⟨y0, y1, n', hy, _, t0, t1⟩ := trod_struct2 Try.underlying56 ht
        match cs', hcl with
        | [c0, c1], _ =>
          obtain ⟨zt, e0, h0, wt⟩ := DataW.trod_int Try.underlying29 t0
          obtain ⟨s, e1, h1, _⟩ := DataW.trod_string Try.underlying9 t1
          simp only [cellsU64, cellsString] at e0 e1
          simp at e0 e1
          subst e0 e1
          have s0 := hat 0 (by omega)
          have s1 := hat 1 (by omega)
          obtain rfl := hspot (by omega)
          rw [add_plain, add_plain] at s0 s1
          obtain ⟨nt, rfl, bt⟩ := u64_nat wt
          refine ⟨⟨nt, s⟩, fun _ => ⟨⟨?_, bt⟩, rfl, ?_, ?_, ?_⟩⟩
          · have hmem : s.data.toList.length ∈ (D i).weights Try.prog 56 := by
              simp only [Prod.mk.injEq] at hy
              rw [hy.1]; simp [DataW.weights, DataW.weightsEach, Try.underlying56, h1]
            have h := hw s.data.toList.length (by
              simp only [DataW.weights, Try.underlying30, List.mem_cons, List.mem_append]
              exact .inr (.inl (mem_weightsAll hmem _ (List.mem_map.2 ⟨i, List.mem_range.2 hil, rfl⟩))))
            rw [Array.length_toList] at h; exact h
          · exact hlt (.cell b off) (List.mem_append.2 (.inl (MemPlace.mem_row.2 ⟨0, by rw [cellsEn]; omega, by simp⟩)))
          · simpa using s0
          · simpa using s1
      · exact ⟨⟨0, ⟨#[]⟩⟩, fun h => absurd h hil⟩
    have hget : ∀ i x, ((List.range len).map fun i => Classical.choose (hone i))[i]? = some x → i < len ∧ x = Classical.choose (hone i) := fun i x hx => by
      have hil : i < len := by have := (List.getElem?_eq_some_iff.1 hx).1; simpa using this
      rw [List.getElem?_map, List.getElem?_range hil] at hx
      exact ⟨hil, (Option.some.inj hx).symm⟩
    refine ⟨_, len, m, (List.range len).map fun i => Classical.choose (hone i), rfl, by simp, by omega, fun x hx => ?_, fun i x hx => ?_⟩
    · obtain ⟨i, hi, rfl⟩ := List.mem_map.1 hx
      exact (Classical.choose_spec (hone i) (List.mem_range.1 hi)).1
    · obtain ⟨hil, rfl⟩ := hget i x hx
      obtain ⟨_, g3, g4, g5, g6⟩ := Classical.choose_spec (hone i) hil
      exact ⟨b, off, by rw [g3], g4, g5, g6⟩
/-- What an argument that is a state gives. -/
structure StRow (W : World) (v : Value) (term vote base bt : Nat) (snap : ByteArray) (a : Option Addr) (n c : Nat) (L : List En) : Prop where
  val : v = .agg #[.int .u64 term, .int .u64 vote, .int .u64 base, .int .u64 bt, .string snap, .slice a n c]
  hlen : L.length = n
  hmax : n ≤ 140737488351232
  hsnap : snap.size ≤ 140737488351232
  sizes : ∀ x ∈ L, x.d.size ≤ 140737488351232
  nums : term < 18446744073709551616 ∧ vote < 18446744073709551616 ∧ base < 18446744073709551616 ∧ bt < 18446744073709551616 ∧ ∀ x ∈ L, x.t < 18446744073709551616
  mem : Ents W a L
theorem stRow_of {H : Type} {enc : TypeId × Value → H} {W : World} {r : Reach} {b0 : Nat} {v : Value} {d : DataW H} {p : List MemPlace} {ts : List TypeId} {ds : List (DataW H)} {j : Nat}
    (hv : Value.okWide Try.prog W r b0 34 v) (h : DataW.Trod enc Try.prog W 0 (fun _ => true) true 34 v d p) (hlt : ∀ x ∈ p, x.block < W.heap.size)
    (hZ : (DataW.weightsEach Try.prog ts ds).all (· ≤ reachBytes) = true) (hj : ts[j]? = some 34) (hd : ds[j]? = some d) : ∃ term vote base bt snap a n c L, StRow W v term vote base bt snap a n c L := by
  obtain ⟨cs, rfl, hsz⟩ := okWide_struct Try.underlying34 hv
  rw [cellsStable] at hsz
  obtain ⟨fuel, hf⟩ := h
  obtain ⟨y0, y1, y2, n1, hy, _, t0, t1, t2⟩ := trod_struct3 Try.underlying34 hf
  obtain ⟨l⟩ := cs
  match l, hsz with
  | [c0, c1, c2, c3, c4, c5], _ =>
      obtain ⟨zt, e0, h0, wt⟩ := DataW.trod_int Try.underlying29 t0
      obtain ⟨zv, e1, h1, wv⟩ := DataW.trod_int Try.underlying29 t1
      obtain ⟨z0, z1, z2, z3, n2, hz, _, u0, u1, u2, u3⟩ := trod_struct4 Try.underlying32 t2
      obtain ⟨zb, e2, h2, wb⟩ := DataW.trod_int Try.underlying29 u0
      obtain ⟨zbt, e3, h3, wbt⟩ := DataW.trod_int Try.underlying29 u1
      obtain ⟨s, e4, h4, _⟩ := DataW.trod_string Try.underlying9 u2
      simp only [cellsU64, cellsLog, cellsString, Value.cells] at e0 e1 e2 e3 e4
      simp at e0 e1 e2 e3 e4
      subst e0 e1 e2 e3 e4
      have u3' : DataW.trod enc Try.prog W 0 (fun _ => true) true n2 30 [c5] = some z3 := by
        simp only [cellsLog, cellsEns, Value.cells] at u3
        simpa using u3
      simp only [Prod.mk.injEq] at hy
      have hwd : ∀ q ∈ d.weights Try.prog 34, q ≤ 140737488351232 := fun q hq => by
        have := List.all_eq_true.1 hZ _ (DataW.weights_mem_each hj hd q hq); exact of_decide_eq_true this
      have hd2 : d = .agg [y0.1, y1.1, .agg [z0.1, z1.1, z2.1, z3.1]] := by rw [hy.1, hz]
      have hsub : ∀ q, (q ∈ z2.1.weights Try.prog 9 ∨ q ∈ z3.1.weights Try.prog 30) → q ∈ d.weights Try.prog 34 := fun q hq => by
        rw [hd2]
        simp only [DataW.weights, DataW.weightsEach, Try.underlying34, Try.underlying32, List.map_cons, List.map_nil, List.mem_append, List.append_nil]
        rcases hq with hq | hq
        · exact .inr (.inr (.inr (.inr (.inl hq))))
        · exact .inr (.inr (.inr (.inr (.inr hq))))
      obtain ⟨a, n, c, L, rfl, g1, g2, g3, g4⟩ := enRow_of u3' (fun x hx => hlt x (by rw [hy.2, hz]; simp [hx])) (fun q hq => hwd q (hsub q (.inr hq)))
      obtain ⟨nt, rfl, bt⟩ := u64_nat wt
      obtain ⟨nv, rfl, bv⟩ := u64_nat wv
      obtain ⟨nb, rfl, bb⟩ := u64_nat wb
      obtain ⟨nbt, rfl, bbt⟩ := u64_nat wbt
      refine ⟨nt, nv, nb, nbt, s, a, n, c, L, rfl, g1, g2, ?_, fun x hx => (g3 x hx).1, ⟨bt, bv, bb, bbt, fun x hx => (g3 x hx).2⟩, g4⟩
      have h := hwd s.data.toList.length (hsub _ (.inl (by rw [h4]; simp [DataW.weights])))
      rw [Array.length_toList] at h; exact h
end Go.Proofs.Ytjbhnkigbobhiaa
