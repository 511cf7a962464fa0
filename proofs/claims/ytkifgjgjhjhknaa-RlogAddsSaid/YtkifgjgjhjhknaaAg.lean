/- The laws' arguments of layer 5: a log, an entry, a log with numbers and a text, a log with numbers and entries. -/
import Derived.Test.YtkifgjgjhjhknaaAl
namespace Go.Proofs.Ytkifgjgjhjhknaa
open Go.ChangeShapes Go.WideShapes Go.ChangeAt Go.RowKit Go.Deep Go.Joins

structure LogArg (W : World) (v : Value) (base bt : Nat) (snap : ByteArray) (a : Option Addr) (n c : Nat) (L : List En) : Prop where
  val : v = .agg #[.int .u64 base, .int .u64 bt, .string snap, .slice a n c]
  hbase : base < 18446744073709551616
  hlen : L.length = n
  hcap : n ≤ c
  hmax : c ≤ maxLen
  room : n * 24 ≤ 140737488351232
  mem : Ents W a L
theorem LogArg.small {W : World} {v : Value} {base bt : Nat} {snap : ByteArray} {a : Option Addr} {n c : Nat} {L : List En} (h : LogArg W v base bt snap a n c L) : n ≤ 140737488351232 := by have := h.room; omega
theorem logArg_of {H : Type} {enc : TypeId × Value → H} {W : World} {r : Reach} {b0 : Nat} {v : Value} {d : DataW H} {p : List MemPlace} {ts : List TypeId} {ds : List (DataW H)} {j : Nat}
    (hv : Value.okWide Try.prog W r b0 25 v) (h : DataW.Trod enc Try.prog W 0 (fun _ => true) true 25 v d p) (hlt : ∀ x ∈ p, x.block < W.heap.size)
    (hZ : (DataW.weightsEach Try.prog ts ds).all (· ≤ reachBytes) = true) (hj : ts[j]? = some 25) (hd : ds[j]? = some d) : ∃ base bt snap a n c L, LogArg W v base bt snap a n c L := by
  obtain ⟨cs, rfl, hsz⟩ := okWide_struct Try.underlying25 hv
  rw [cellsLog] at hsz
  obtain ⟨fuel, hf⟩ := h
  obtain ⟨base, bt, snap, a, n, c, L, e, s, hr⟩ := lgRow_of (cs := cs.toList) (by simpa using hsz) (by simpa [Value.cells] using hf) hlt
  obtain ⟨d0, d1, hde⟩ := hr.datum
  have hcs := hr.cells
  refine ⟨base, bt, snap, a, n, c, L, ?_, hr.hbase, hr.row.hlen, hr.row.hcap, hr.row.hmax, hr.row.room (fun q hq => ?_), hr.row.mem⟩
  · congr 1; rw [← Array.toList_inj]; exact hcs
  · have := List.all_eq_true.1 hZ _ (DataW.weights_mem_each hj hd q (by
      rw [show d = _ from hde]
      simp only [DataW.weights, DataW.weightsEach, Try.underlying25, List.map_cons, List.map_nil, List.mem_append, List.append_nil]
      exact .inr (.inr (.inr hq))))
    exact of_decide_eq_true this
/-- An entry by value. -/
theorem entryArg_of {H : Type} {enc : TypeId × Value → H} {W : World} {r : Reach} {b0 : Nat} {v : Value} {d : DataW H} {p : List MemPlace}
    (hv : Value.okWide Try.prog W r b0 39 v) (h : DataW.Trod enc Try.prog W 0 (fun _ => true) true 39 v d p) : ∃ (t : Nat) (s : ByteArray), v = .agg #[.int .u64 t, .string s] := by
  obtain ⟨cs, rfl, hsz⟩ := okWide_struct Try.underlying39 hv
  rw [cellsEn] at hsz
  obtain ⟨fuel, hf⟩ := h
  obtain ⟨y0, y1, n', hy, _, t0, t1⟩ := trod_struct2 Try.underlying39 hf
  obtain ⟨l⟩ := cs
  match l, hsz with
  | [c0, c1], _ =>
    obtain ⟨zt, e0, h0, wt⟩ := DataW.trod_int Try.underlying22 t0
    obtain ⟨s, e1, h1, _⟩ := DataW.trod_string Try.underlying9 t1
    simp only [cellsU64, cellsString, Value.cells] at e0 e1
    simp at e0 e1
    subst e0 e1
    obtain ⟨nt, rfl, bt⟩ := u64_nat wt
    exact ⟨nt, s, rfl⟩
/-- A log, two numbers, a text. -/
structure InsArg (W : World) (v : Value) (base bt : Nat) (snap : ByteArray) (a : Option Addr) (n c : Nat) (L : List En) (i t : Nat) (s : ByteArray) : Prop where
  val : v = .agg #[.int .u64 base, .int .u64 bt, .string snap, .slice a n c, .int .u64 i, .int .u64 t, .string s]
  hlen : L.length = n
  hcap : n ≤ c
  hmax : c ≤ maxLen
  room : n * 24 ≤ 140737488351232
  hi : i < 18446744073709551616
  ssize : s.size ≤ 140737488351232
  mem : Ents W a L
theorem cellsIns : Try.prog.cellsOf 48 = 7 := by kernel_rfl
theorem insArg_of {H : Type} {enc : TypeId × Value → H} {W : World} {r : Reach} {b0 : Nat} {v : Value} {d : DataW H} {p : List MemPlace} {ts : List TypeId} {ds : List (DataW H)} {j : Nat}
    (hv : Value.okWide Try.prog W r b0 48 v) (h : DataW.Trod enc Try.prog W 0 (fun _ => true) true 48 v d p) (hlt : ∀ x ∈ p, x.block < W.heap.size)
    (hZ : (DataW.weightsEach Try.prog ts ds).all (· ≤ reachBytes) = true) (hj : ts[j]? = some 48) (hd : ds[j]? = some d) : ∃ base bt snap a n c L i t s, InsArg W v base bt snap a n c L i t s := by
  obtain ⟨cs, rfl, hsz⟩ := okWide_struct Try.underlying48 hv
  rw [cellsIns] at hsz
  obtain ⟨fuel, hf⟩ := h
  obtain ⟨z0, z1, z2, z3, n2, hz, _, u0, u1, u2, u3⟩ := trod_struct4 Try.underlying48 hf
  obtain ⟨l⟩ := cs
  match l, hsz with
  | [c0, c1, c2, c3, c4, c5, c6], _ =>
    obtain ⟨zi, e1, h1, wi⟩ := DataW.trod_int Try.underlying22 u1
    obtain ⟨zt, e2, h2, wt⟩ := DataW.trod_int Try.underlying22 u2
    obtain ⟨s, e3, h3, _⟩ := DataW.trod_string Try.underlying9 u3
    simp only [cellsU64, cellsString, Value.cells] at e1 e2 e3
    simp at e1 e2 e3
    subst e1 e2 e3
    have u0' : DataW.trod enc Try.prog W 0 (fun _ => true) true n2 25 [c0, c1, c2, c3] = some z0 := by
      simp only [cellsLog, Value.cells] at u0; simpa using u0
    obtain ⟨base, bt, snap, a, n, c, L, e, sd, hr⟩ := lgRow_of (cs := [c0, c1, c2, c3]) rfl u0' (fun x hx => hlt x (by simp only [Prod.mk.injEq] at hz; rw [hz.2]; simp [hx]))
    obtain ⟨d0, d1, hde⟩ := hr.datum
    obtain ⟨ni, rfl, bi⟩ := u64_nat wi
    obtain ⟨nt, rfl, bt'⟩ := u64_nat wt
    have hcs := hr.cells
    simp only [List.cons.injEq, and_true] at hcs
    obtain ⟨rfl, rfl, rfl, rfl⟩ := hcs
    simp only [Prod.mk.injEq] at hz
    have hall : ∀ q, q ∈ e.weights Try.prog 23 ∨ q ∈ z3.1.weights Try.prog 9 → q ≤ 140737488351232 := fun q hq => by
      have := List.all_eq_true.1 hZ _ (DataW.weights_mem_each hj hd q (by
        rw [hz.1, hde]
        simp only [DataW.weights, DataW.weightsEach, Try.underlying48, Try.underlying25, List.map_cons, List.map_nil, List.mem_append, List.append_nil]
        rcases hq with hq | hq
        · exact .inl (.inr (.inr (.inr hq)))
        · exact .inr (.inr (.inr hq))))
      exact of_decide_eq_true this
    refine ⟨base, bt, snap, a, n, c, L, ni, nt, s, rfl, hr.row.hlen, hr.row.hcap, hr.row.hmax, hr.row.room (fun q hq => hall q (.inl hq)), bi, ?_, hr.row.mem⟩
    have h := hall s.data.toList.length (.inr (by rw [h3]; simp [DataW.weights]))
    rw [Array.length_toList] at h; exact h
/-- A log, two numbers, entries; of bounded bulk. -/
structure TwArg (W : World) (v : Value) (base bt : Nat) (snap : ByteArray) (a : Option Addr) (n c : Nat) (L : List En) (p t : Nat) (a2 : Option Addr) (m c2 : Nat) (E : List En) : Prop where
  val : v = .agg #[.int .u64 base, .int .u64 bt, .string snap, .slice a n c, .int .u64 p, .int .u64 t, .slice a2 m c2]
  hlen : L.length = n
  hcap : n ≤ c
  hmax : c ≤ maxLen
  small : n ≤ 1048576
  hp : p < 18446744073709551616
  ht : t < 18446744073709551616
  mem : Ents W a L
  hlen2 : E.length = m
  hcap2 : m ≤ c2
  hmax2 : c2 ≤ maxLen
  small2 : m ≤ 1048576
  mem2 : Ents W a2 E
theorem cellsTw : Try.prog.cellsOf 55 = 7 := by kernel_rfl
theorem twArg_of {H : Type} {enc : TypeId × Value → H} {W : World} {r : Reach} {b0 : Nat} {v : Value} {d : DataW H} {p : List MemPlace} {ds : List (DataW H)}
    (hv : Value.okWide Try.prog W r b0 55 v) (h : DataW.Trod enc Try.prog W 0 (fun _ => true) true 55 v d p) (hlt : ∀ x ∈ p, x.block < W.heap.size)
    (hk : Rows.uptoSmall H ds = true) (hd : d ∈ ds) : ∃ base bt snap a n c L p t a2 m c2 E, TwArg W v base bt snap a n c L p t a2 m c2 E := by
  obtain ⟨cs, rfl, hsz⟩ := okWide_struct Try.underlying55 hv
  rw [cellsTw] at hsz
  obtain ⟨fuel, hf⟩ := h
  obtain ⟨z0, z1, z2, z3, n2, hz, _, u0, u1, u2, u3⟩ := trod_struct4 Try.underlying55 hf
  obtain ⟨l⟩ := cs
  match l, hsz with
  | [c0, c1, c2, c3, c4, c5, c6], _ =>
    obtain ⟨zi, e1, h1, wi⟩ := DataW.trod_int Try.underlying22 u1
    obtain ⟨zt, e2, h2, wt⟩ := DataW.trod_int Try.underlying22 u2
    simp only [cellsU64, Value.cells] at e1 e2
    simp at e1 e2
    subst e1 e2
    simp only [Prod.mk.injEq] at hz
    have u0' : DataW.trod enc Try.prog W 0 (fun _ => true) true n2 25 [c0, c1, c2, c3] = some z0 := by
      simp only [cellsLog, Value.cells] at u0; simpa using u0
    have u3' : DataW.trod enc Try.prog W 0 (fun _ => true) true n2 23 [c6] = some z3 := by
      simp only [cellsEns, Value.cells] at u3; simpa using u3
    obtain ⟨base, bt, snap, a, n, c, L, e, sd, hr⟩ := lgRow_of (cs := [c0, c1, c2, c3]) rfl u0' (fun x hx => hlt x (by rw [hz.2]; simp [hx]))
    obtain ⟨a2, m, cc2, E, rfl, hr2⟩ := enRow_of u3' (fun x hx => hlt x (by rw [hz.2]; simp [hx]))
    obtain ⟨d0, d1, hde⟩ := hr.datum
    obtain ⟨ni, rfl, bi⟩ := u64_nat wi
    obtain ⟨nt, rfl, bt'⟩ := u64_nat wt
    have hcs := hr.cells
    simp only [List.cons.injEq, and_true] at hcs
    obtain ⟨rfl, rfl, rfl, rfl⟩ := hcs
    have hb := Nat.le_trans (bulk_mem hd) (bulk_le hk)
    rw [hz.1, hde] at hb
    simp only [Rows.uptoBulk, Rows.uptoBulkAll] at hb
    have b1 := hr.row.bulk
    have b2 := hr2.bulk
    exact ⟨base, bt, snap, a, n, c, L, ni, nt, a2, m, cc2, E, rfl, hr.row.hlen, hr.row.hcap, hr.row.hmax, by omega, bi, bt', hr.row.mem, hr2.hlen, hr2.hcap, hr2.hmax, by omega, hr2.mem⟩
end Go.Proofs.Ytkifgjgjhjhknaa
