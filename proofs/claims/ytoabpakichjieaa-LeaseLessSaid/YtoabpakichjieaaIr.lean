/- Arguments that are numbers, marks, configurations, or hold them: what their reading gives. -/
import Derived.Test.YtoabpakichjieaaGa
import Derived.Deep.Slices
import Derived.Deep.Fields
import Derived.Deep.Strs
import Derived.SizedLaws
import Derived.OpenShut
import Derived.ProofKit
import Derived.Lib.SmallJoins
namespace Go.Proofs.Ytoabpakichjieaa
open Go.ChangeShapes Go.WideShapes Go.ChangeAt Go.RowKit Go.Deep Go.Joins

theorem u64_nat {z : Int} (h : (Lit.int .u64 z).wf = true) : ∃ n : Nat, z = n ∧ n < 18446744073709551616 := by
  have hb := bounds_u64 h
  exact ⟨z.toNat, by omega, by omega⟩
theorem cellsU64 : Try.prog.cellsOf 22 = 1 := by kernel_rfl
theorem cellsInt : Try.prog.cellsOf 3 = 1 := by kernel_rfl
theorem bytesU64 : Try.prog.bytesOf 22 = 8 := by kernel_rfl
theorem cellsMark : Try.prog.cellsOf 42 = 2 := by kernel_rfl
theorem bytesMark : Try.prog.bytesOf 42 = 16 := by kernel_rfl
theorem cellsUs : Try.prog.cellsOf 27 = 1 := by kernel_rfl
theorem cellsMs : Try.prog.cellsOf 30 = 1 := by kernel_rfl
theorem cellsConf : Try.prog.cellsOf 29 = 2 := by kernel_rfl
/-- What a list that came in is known for. -/
structure UsRow {H : Type} (W : World) (a : Option Addr) (n c : Nat) (L : List Nat) (d : DataW H) : Prop where
  hlen : L.length = n
  hcap : n ≤ c
  hmax : c ≤ maxLen
  nums : ∀ x ∈ L, x < 18446744073709551616
  mem : Us W a L
  room : (∀ q ∈ d.weights Try.prog 27, q ≤ 140737488351232) → n * 8 ≤ 140737488351232
set_option maxRecDepth 100000 in
theorem usRow_of {H : Type} {enc : TypeId × Value → H} {W : World} {fuel : Nat} {c : Value} {y : DataW H × List MemPlace}
    (hf : DataW.trod enc Try.prog W 0 (fun _ => true) true fuel 27 [c] = some y) (hlt : ∀ x ∈ y.2, x.block < W.heap.size) : ∃ a len cap L, c = .slice a len cap ∧ UsRow W a len cap L y.1 := by
  obtain ⟨d, p⟩ := y
  rcases open_slice Try.underlying27 hf with ⟨hcs, hx⟩ | ⟨a', len, cap', m, n, D, Pl, hcs, _, hl, hm, hmm, hx, hi⟩
  · simp at hcs
    subst hcs
    exact ⟨none, 0, 0, [], rfl, rfl, Nat.le_refl _, by decide, by simp, fun j x hx => by simp at hx, fun _ => by omega⟩
  · simp at hcs
    subst hcs
    simp only [Prod.mk.injEq] at hx
    obtain ⟨rfl, rfl⟩ := hx
    simp only [if_true] at hmm
    subst hmm
    simp only at hlt
    obtain ⟨b, off, spot⟩ := a'
    have hspot : 0 < len → spot = none := by
      intro h0
      obtain ⟨cs', hc, _⟩ := hi 0 (by omega)
      rw [cellsU64] at hc
      obtain ⟨_, hcl, hat⟩ := World.cells?_some hc
      have s0 := hat 0 (by omega)
      match cs', hcl with
      | [c0], _ => simpa [Addr.add] using World.cell?_spot s0
    have hone : ∀ i, ∃ x : Nat, i < len → x < 18446744073709551616 ∧ spot = none ∧ b < W.heap.size ∧
        W.cell? ⟨b, off + i, none⟩ = some (.int .u64 (x : Nat)) := by
      intro i
      by_cases hil : i < len
      · obtain ⟨cs', hc, ht⟩ := hi i (by omega)
        rw [cellsU64] at hc
        obtain ⟨_, hcl, hat⟩ := World.cells?_some hc
        match cs', hcl with
        | [c0], _ =>
          obtain ⟨zt, e0, h0, wt⟩ := DataW.trod_int Try.underlying22 ht
          simp at e0
          subst e0
          have s0 := hat 0 (by omega)
          obtain rfl := hspot (by omega)
          rw [add_plain, add_plain] at s0
          obtain ⟨nt, rfl, bt⟩ := u64_nat wt
          refine ⟨nt, fun _ => ⟨bt, rfl, ?_, ?_⟩⟩
          · exact hlt (.cell b off) (List.mem_append.2 (.inl (MemPlace.mem_row.2 ⟨0, by rw [cellsU64]; omega, by simp⟩)))
          · simpa using s0
      · exact ⟨0, fun h => absurd h hil⟩
    have hget : ∀ i x, ((List.range len).map fun i => Classical.choose (hone i))[i]? = some x → i < len ∧ x = Classical.choose (hone i) := fun i x hx => by
      have hil : i < len := by have := (List.getElem?_eq_some_iff.1 hx).1; simpa using this
      rw [List.getElem?_map, List.getElem?_range hil] at hx
      exact ⟨hil, (Option.some.inj hx).symm⟩
    refine ⟨_, len, m, (List.range len).map fun i => Classical.choose (hone i), rfl, by simp, hl, hm, fun x hx => ?_, fun i x hx => ?_, fun hw => ?_⟩
    · obtain ⟨i, hi, rfl⟩ := List.mem_map.1 hx
      exact (Classical.choose_spec (hone i) (List.mem_range.1 hi)).1
    · obtain ⟨hil, rfl⟩ := hget i x hx
      obtain ⟨_, g3, g4, g5⟩ := Classical.choose_spec (hone i) hil
      exact ⟨b, off, by rw [g3], g4, g5⟩
    · have hreach := hw (((List.range len).map D).length * Try.prog.bytesOf 22 + ((List.range (m - len)).map fun j => D (len + j)).length * Try.prog.bytesOf 22) (by
        simp only [DataW.weights, Try.underlying27, List.mem_cons]
        left; rw [Nat.add_mul])
      rw [bytesU64] at hreach
      simp only [List.length_map, List.length_range] at hreach
      omega
/-- What a list that came in is known for. -/
structure MsRow {H : Type} (W : World) (a : Option Addr) (n c : Nat) (L : List Mk) (d : DataW H) : Prop where
  hlen : L.length = n
  hcap : n ≤ c
  hmax : c ≤ maxLen
  nums : ∀ x ∈ L, (x.id < 18446744073709551616 ∧ x.n < 18446744073709551616)
  mem : Ms W a L
  room : (∀ q ∈ d.weights Try.prog 30, q ≤ 140737488351232) → n * 16 ≤ 140737488351232
set_option maxRecDepth 100000 in
theorem msRow_of {H : Type} {enc : TypeId × Value → H} {W : World} {fuel : Nat} {c : Value} {y : DataW H × List MemPlace}
    (hf : DataW.trod enc Try.prog W 0 (fun _ => true) true fuel 30 [c] = some y) (hlt : ∀ x ∈ y.2, x.block < W.heap.size) : ∃ a len cap L, c = .slice a len cap ∧ MsRow W a len cap L y.1 := by
  obtain ⟨d, p⟩ := y
  rcases open_slice Try.underlying30 hf with ⟨hcs, hx⟩ | ⟨a', len, cap', m, n, D, Pl, hcs, _, hl, hm, hmm, hx, hi⟩
  · simp at hcs
    subst hcs
    exact ⟨none, 0, 0, [], rfl, rfl, Nat.le_refl _, by decide, by simp, fun j x hx => by simp at hx, fun _ => by omega⟩
  · simp at hcs
    subst hcs
    simp only [Prod.mk.injEq] at hx
    obtain ⟨rfl, rfl⟩ := hx
    simp only [if_true] at hmm
    subst hmm
    simp only at hlt
    obtain ⟨b, off, spot⟩ := a'
    have hspot : 0 < len → spot = none := by
      intro h0
      obtain ⟨cs', hc, _⟩ := hi 0 (by omega)
      rw [cellsMark] at hc
      obtain ⟨_, hcl, hat⟩ := World.cells?_some hc
      have s0 := hat 0 (by omega)
      match cs', hcl with
      | [c0, c1], _ => simpa [Addr.add] using World.cell?_spot s0
    have hone : ∀ i, ∃ x : Mk, i < len → (x.id < 18446744073709551616 ∧ x.n < 18446744073709551616) ∧ spot = none ∧ b < W.heap.size ∧
        W.cell? ⟨b, off + i * 2, none⟩ = some (.int .u64 (x.id : Nat)) ∧ W.cell? ⟨b, off + i * 2 + 1, none⟩ = some (.int .u64 (x.n : Nat)) := by
      intro i
      by_cases hil : i < len
      · obtain ⟨cs', hc, ht⟩ := hi i (by omega)
        rw [cellsMark] at hc
        obtain ⟨_, hcl, hat⟩ := World.cells?_some hc
        obtain ⟨y0, y1, n', hy, _, t0, t1⟩ := trod_struct2 Try.underlying42 ht
        match cs', hcl with
        | [c0, c1], _ =>
          obtain ⟨zt, e0, h0, wt⟩ := DataW.trod_int Try.underlying22 t0
          obtain ⟨zn, e1, h1, wn⟩ := DataW.trod_int Try.underlying22 t1
          simp only [cellsU64] at e0 e1
          simp at e0 e1
          subst e0 e1
          have s0 := hat 0 (by omega)
          have s1 := hat 1 (by omega)
          obtain rfl := hspot (by omega)
          rw [add_plain, add_plain] at s0 s1
          obtain ⟨nt, rfl, bt⟩ := u64_nat wt
          obtain ⟨nn, rfl, bn⟩ := u64_nat wn
          refine ⟨⟨nt, nn⟩, fun _ => ⟨⟨bt, bn⟩, rfl, ?_, ?_, ?_⟩⟩
          · exact hlt (.cell b off) (List.mem_append.2 (.inl (MemPlace.mem_row.2 ⟨0, by rw [cellsMark]; omega, by simp⟩)))
          · simpa using s0
          · simpa using s1
      · exact ⟨⟨0, 0⟩, fun h => absurd h hil⟩
    have hget : ∀ i x, ((List.range len).map fun i => Classical.choose (hone i))[i]? = some x → i < len ∧ x = Classical.choose (hone i) := fun i x hx => by
      have hil : i < len := by have := (List.getElem?_eq_some_iff.1 hx).1; simpa using this
      rw [List.getElem?_map, List.getElem?_range hil] at hx
      exact ⟨hil, (Option.some.inj hx).symm⟩
    refine ⟨_, len, m, (List.range len).map fun i => Classical.choose (hone i), rfl, by simp, hl, hm, fun x hx => ?_, fun i x hx => ?_, fun hw => ?_⟩
    · obtain ⟨i, hi, rfl⟩ := List.mem_map.1 hx
      exact (Classical.choose_spec (hone i) (List.mem_range.1 hi)).1
    · obtain ⟨hil, rfl⟩ := hget i x hx
      obtain ⟨_, g3, g4, g5, g6⟩ := Classical.choose_spec (hone i) hil
      exact ⟨b, off, by rw [g3], g4, g5, g6⟩
    · have hreach := hw (((List.range len).map D).length * Try.prog.bytesOf 42 + ((List.range (m - len)).map fun j => D (len + j)).length * Try.prog.bytesOf 42) (by
        simp only [DataW.weights, Try.underlying30, List.mem_cons]
        left; rw [Nat.add_mul])
      rw [bytesMark] at hreach
      simp only [List.length_map, List.length_range] at hreach
      omega
theorem room_of {H : Type} {d : DataW H} {ts : List TypeId} {ds : List (DataW H)} {j : Nat} {t s : TypeId} {D : DataW H}
    (hZ : (DataW.weightsEach Try.prog ts ds).all (· ≤ reachBytes) = true) (hj : ts[j]? = some t) (hd : ds[j]? = some D) (hsub : ∀ q ∈ d.weights Try.prog s, q ∈ D.weights Try.prog t) : ∀ q ∈ d.weights Try.prog s, q ≤ 140737488351232 := fun q hq => by
  have := List.all_eq_true.1 hZ _ (DataW.weights_mem_each hj hd q (hsub q hq))
  exact of_decide_eq_true this
/-- A configuration in its cells. -/
structure CfRow {H : Type} (W : World) (cs : List Value) (a : Option Addr) (n c : Nat) (V : List Nat) (a2 : Option Addr) (n2 c2 : Nat) (L : List Nat) (d d1 d2 : DataW H) : Prop where
  cells : cs = [.slice a n c, .slice a2 n2 c2]
  row : UsRow W a n c V d1
  row2 : UsRow W a2 n2 c2 L d2
  datum : d = .agg [d1, d2]
set_option maxRecDepth 100000 in
theorem cfRow_of {H : Type} {enc : TypeId × Value → H} {W : World} {fuel : Nat} {cs : List Value} {y : DataW H × List MemPlace} (hsz : cs.length = 2)
    (hf : DataW.trod enc Try.prog W 0 (fun _ => true) true fuel 29 cs = some y) (hlt : ∀ x ∈ y.2, x.block < W.heap.size) : ∃ a n c V a2 n2 c2 L d1 d2, CfRow W cs a n c V a2 n2 c2 L y.1 d1 d2 := by
  obtain ⟨z0, z1, n', hz, _, u0, u1⟩ := trod_struct2 Try.underlying29 hf
  match cs, hsz with
  | [c0, c1], _ =>
    have u0' : DataW.trod enc Try.prog W 0 (fun _ => true) true n' 27 [c0] = some z0 := by simp only [cellsUs] at u0; simpa using u0
    have u1' : DataW.trod enc Try.prog W 0 (fun _ => true) true n' 27 [c1] = some z1 := by simp only [cellsUs] at u1; simpa using u1
    obtain ⟨a, n, c, V, rfl, h1⟩ := usRow_of u0' (fun x hx => hlt x (by rw [hz]; simp [hx]))
    obtain ⟨a2, n2, c2, L, rfl, h2⟩ := usRow_of u1' (fun x hx => hlt x (by rw [hz]; simp [hx]))
    exact ⟨a, n, c, V, a2, n2, c2, L, z0.1, z1.1, rfl, h1, h2, by rw [hz]⟩
/-- A configuration as an argument. -/
structure CfArg (W : World) (v : Value) (a : Option Addr) (n c : Nat) (V : List Nat) (a2 : Option Addr) (n2 c2 : Nat) (L : List Nat) : Prop where
  val : v = .agg #[.slice a n c, .slice a2 n2 c2]
  hlen : V.length = n
  hcap : n ≤ c
  hmax : c ≤ 9223372036854775807
  room : n * 8 ≤ 140737488351232
  nums : ∀ x ∈ V, x < 18446744073709551616
  mem : Us W a V
  hlen2 : L.length = n2
  room2 : n2 * 8 ≤ 140737488351232
  mem2 : Us W a2 L
theorem CfArg.small {W : World} {v : Value} {a : Option Addr} {n c : Nat} {V : List Nat} {a2 : Option Addr} {n2 c2 : Nat} {L : List Nat} (h : CfArg W v a n c V a2 n2 c2 L) : n ≤ 140737488351232 := by have := h.room; omega
theorem CfArg.small2 {W : World} {v : Value} {a : Option Addr} {n c : Nat} {V : List Nat} {a2 : Option Addr} {n2 c2 : Nat} {L : List Nat} (h : CfArg W v a n c V a2 n2 c2 L) : n2 ≤ 140737488351232 := by have := h.room2; omega
theorem maxLen63 {c : Nat} (h : c ≤ maxLen) : c ≤ 9223372036854775807 := by unfold maxLen at h; omega
set_option maxRecDepth 100000 in
theorem confArg_of {H : Type} {enc : TypeId × Value → H} {W : World} {r : Reach} {b0 : Nat} {v : Value} {d : DataW H} {p : List MemPlace} {ts : List TypeId} {ds : List (DataW H)} {j : Nat}
    (hv : Value.okWide Try.prog W r b0 29 v) (h : DataW.Trod enc Try.prog W 0 (fun _ => true) true 29 v d p) (hlt : ∀ x ∈ p, x.block < W.heap.size)
    (hZ : (DataW.weightsEach Try.prog ts ds).all (· ≤ reachBytes) = true) (hj : ts[j]? = some 29) (hd : ds[j]? = some d) : ∃ a n c V a2 n2 c2 L, CfArg W v a n c V a2 n2 c2 L := by
  obtain ⟨cs, rfl, hsz⟩ := okWide_struct Try.underlying29 hv
  rw [cellsConf] at hsz
  obtain ⟨fuel, hf⟩ := h
  obtain ⟨a, n, c, V, a2, n2, c2, L, d1, d2, hr⟩ := cfRow_of (cs := cs.toList) (by simpa using hsz) (by simpa [Value.cells] using hf) hlt
  have hde := hr.datum
  have hcs := hr.cells
  refine ⟨a, n, c, V, a2, n2, c2, L, ?_, hr.row.hlen, hr.row.hcap, maxLen63 hr.row.hmax, hr.row.room (room_of hZ hj hd fun q hq => ?_), hr.row.nums, hr.row.mem, hr.row2.hlen, hr.row2.room (room_of hZ hj hd fun q hq => ?_), hr.row2.mem⟩
  · congr 1; rw [← Array.toList_inj]; exact hcs
  · rw [show d = _ from hde]
    simp only [DataW.weights, DataW.weightsEach, Try.underlying29, List.map_cons, List.map_nil, List.mem_append, List.append_nil]
    exact .inl hq
  · rw [show d = _ from hde]
    simp only [DataW.weights, DataW.weightsEach, Try.underlying29, List.map_cons, List.map_nil, List.mem_append, List.append_nil]
    exact .inr hq
/-- A list of numbers as an argument. -/
structure UsArg (W : World) (v : Value) (a : Option Addr) (n c : Nat) (L : List Nat) : Prop where
  val : v = .slice a n c
  hlen : L.length = n
  room : n * 8 ≤ 140737488351232
  nums : ∀ x ∈ L, x < 18446744073709551616
  mem : Us W a L
theorem UsArg.small {W : World} {v : Value} {a : Option Addr} {n c : Nat} {L : List Nat} (h : UsArg W v a n c L) : n ≤ 140737488351232 := by have := h.room; omega
set_option maxRecDepth 100000 in
theorem usArg_of {H : Type} {enc : TypeId × Value → H} {W : World} {r : Reach} {b0 : Nat} {v : Value} {d : DataW H} {p : List MemPlace} {ts : List TypeId} {ds : List (DataW H)} {j : Nat}
    (hv : Value.okWide Try.prog W r b0 27 v) (h : DataW.Trod enc Try.prog W 0 (fun _ => true) true 27 v d p) (hlt : ∀ x ∈ p, x.block < W.heap.size)
    (hZ : (DataW.weightsEach Try.prog ts ds).all (· ≤ reachBytes) = true) (hj : ts[j]? = some 27) (hd : ds[j]? = some d) : ∃ a n c L, UsArg W v a n c L := by
  obtain ⟨a0, l0, c0, rfl⟩ := okWide_slice Try.underlying27 hv
  obtain ⟨fuel, hf⟩ := h
  obtain ⟨a, n, c, L, e, hr⟩ := usRow_of (c := .slice a0 l0 c0) (by simpa [Value.cells] using hf) hlt
  exact ⟨a, n, c, L, e, hr.hlen, hr.room (room_of hZ hj hd fun q hq => hq), hr.nums, hr.mem⟩
/-- A list of marks as an argument. -/
structure MsArg (W : World) (v : Value) (a : Option Addr) (n c : Nat) (L : List Mk) : Prop where
  val : v = .slice a n c
  hlen : L.length = n
  room : n * 16 ≤ 140737488351232
  nums : ∀ x ∈ L, x.id < 18446744073709551616 ∧ x.n < 18446744073709551616
  mem : Ms W a L
set_option maxRecDepth 100000 in
theorem msArg_of {H : Type} {enc : TypeId × Value → H} {W : World} {r : Reach} {b0 : Nat} {v : Value} {d : DataW H} {p : List MemPlace} {ts : List TypeId} {ds : List (DataW H)} {j : Nat}
    (hv : Value.okWide Try.prog W r b0 30 v) (h : DataW.Trod enc Try.prog W 0 (fun _ => true) true 30 v d p) (hlt : ∀ x ∈ p, x.block < W.heap.size)
    (hZ : (DataW.weightsEach Try.prog ts ds).all (· ≤ reachBytes) = true) (hj : ts[j]? = some 30) (hd : ds[j]? = some d) : ∃ a n c L, MsArg W v a n c L := by
  obtain ⟨a0, l0, c0, rfl⟩ := okWide_slice Try.underlying30 hv
  obtain ⟨fuel, hf⟩ := h
  obtain ⟨a, n, c, L, e, hr⟩ := msRow_of (c := .slice a0 l0 c0) (by simpa [Value.cells] using hf) hlt
  exact ⟨a, n, c, L, e, hr.hlen, hr.room (room_of hZ hj hd fun q hq => hq), hr.nums, hr.mem⟩
end Go.Proofs.Ytoabpakichjieaa
