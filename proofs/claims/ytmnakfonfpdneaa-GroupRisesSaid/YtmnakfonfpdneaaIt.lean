/- The arguments of the two laws that take a row of several things. -/
import Derived.Test.YtmnakfonfpdneaaIr
namespace Go.Proofs.Ytmnakfonfpdneaa
open Go.ChangeShapes Go.WideShapes Go.ChangeAt Go.RowKit Go.Deep Go.Joins

/-- A configuration, a change, two lists of numbers. -/
structure MeetsArg (W : World) (v : Value) (a : Option Addr) (n c : Nat) (V : List Nat) (a2 : Option Addr) (n2 c2 : Nat) (L : List Nat) (k : Int) (i : Nat) (a3 : Option Addr) (m d : Nat) (A : List Nat) (a4 : Option Addr) (m2 d2 : Nat) (B : List Nat) : Prop where
  val : v = .agg #[.slice a n c, .slice a2 n2 c2, .int .i64 k, .int .u64 i, .slice a3 m d, .slice a4 m2 d2]
  hlen : V.length = n
  room : n * 8 ≤ 140737488351232
  nums : ∀ x ∈ V, x < 18446744073709551616
  mem : Us W a V
  hlen2 : L.length = n2
  room2 : n2 * 8 ≤ 140737488351232
  mem2 : Us W a2 L
  hlen3 : A.length = m
  room3 : m * 8 ≤ 140737488351232
  nums3 : ∀ x ∈ A, x < 18446744073709551616
  mem3 : Us W a3 A
  hlen4 : B.length = m2
  room4 : m2 * 8 ≤ 140737488351232
  nums4 : ∀ x ∈ B, x < 18446744073709551616
  mem4 : Us W a4 B
theorem cellsMeets : Try.prog.cellsOf 48 = 6 := by kernel_rfl
set_option maxRecDepth 100000 in
set_option maxHeartbeats 4000000 in
theorem meetsArg_of {H : Type} {enc : TypeId × Value → H} {W : World} {r : Reach} {b0 : Nat} {v : Value} {d : DataW H} {p : List MemPlace} {ts : List TypeId} {ds : List (DataW H)} {j : Nat}
    (hv : Value.okWide Try.prog W r b0 48 v) (h : DataW.Trod enc Try.prog W 0 (fun _ => true) true 48 v d p) (hlt : ∀ x ∈ p, x.block < W.heap.size)
    (hZ : (DataW.weightsEach Try.prog ts ds).all (· ≤ reachBytes) = true) (hj : ts[j]? = some 48) (hd : ds[j]? = some d) : ∃ a n c V a2 n2 c2 L k i a3 m e A a4 m2 e2 B, MeetsArg W v a n c V a2 n2 c2 L k i a3 m e A a4 m2 e2 B := by
  obtain ⟨cs, rfl, hsz⟩ := okWide_struct Try.underlying48 hv
  rw [cellsMeets] at hsz
  obtain ⟨fuel, hf⟩ := h
  obtain ⟨z0, z1, z2, z3, n', hz, _, u0, u1, u2, u3⟩ := trod_struct4 Try.underlying48 hf
  obtain ⟨l⟩ := cs
  match l, hsz with
  | [x0, x1, x2, x3, x4, x5], _ =>
    have u0' : DataW.trod enc Try.prog W 0 (fun _ => true) true n' 24 [x0, x1] = some z0 := by
      simp only [cellsConf, Value.cells] at u0; simpa using u0
    have u1' : DataW.trod enc Try.prog W 0 (fun _ => true) true n' 34 [x2, x3] = some z1 := by
      simp only [cellsChange, Value.cells] at u1; simpa using u1
    have u2' : DataW.trod enc Try.prog W 0 (fun _ => true) true n' 22 [x4] = some z2 := by
      simp only [cellsUs, Value.cells] at u2; simpa using u2
    have u3' : DataW.trod enc Try.prog W 0 (fun _ => true) true n' 22 [x5] = some z3 := by
      simp only [cellsUs, Value.cells] at u3; simpa using u3
    simp only [Prod.mk.injEq] at hz
    obtain ⟨a, n, c, V, a2, n2, c2, L, d1, d2, hr⟩ := cfRow_of rfl u0' (fun x hx => hlt x (by rw [hz.2]; simp [hx]))
    obtain ⟨k, i, hch⟩ := chRow_of rfl u1'
    obtain ⟨a3, m, e, A, rfl, h3⟩ := usRow_of u2' (fun x hx => hlt x (by rw [hz.2]; simp [hx]))
    obtain ⟨a4, m2, e2, B, rfl, h4⟩ := usRow_of u3' (fun x hx => hlt x (by rw [hz.2]; simp [hx]))
    have hde := hr.datum
    have hcs := hr.cells
    simp only [List.cons.injEq, and_true] at hcs hch
    obtain ⟨rfl, rfl⟩ := hcs
    obtain ⟨rfl, rfl⟩ := hch
    have hall : ∀ q, q ∈ d1.weights Try.prog 22 ∨ q ∈ d2.weights Try.prog 22 ∨ q ∈ z2.1.weights Try.prog 22 ∨ q ∈ z3.1.weights Try.prog 22 → q ≤ 140737488351232 := fun q hq => by
      have := List.all_eq_true.1 hZ _ (DataW.weights_mem_each hj hd q (by
        rw [hz.1, hde]
        simp only [DataW.weights, DataW.weightsEach, Try.underlying48, Try.underlying24, List.map_cons, List.map_nil, List.mem_append, List.append_nil]
        rcases hq with hq | hq | hq | hq
        · exact .inl (.inl hq)
        · exact .inl (.inr hq)
        · exact .inr (.inr (.inl hq))
        · exact .inr (.inr (.inr hq))))
      exact of_decide_eq_true this
    exact ⟨a, n, c, V, a2, n2, c2, L, k, i, a3, m, e, A, a4, m2, e2, B, rfl, hr.row.hlen, hr.row.room (fun q hq => hall q (.inl hq)), hr.row.nums, hr.row.mem, hr.row2.hlen, hr.row2.room (fun q hq => hall q (.inr (.inl hq))), hr.row2.mem, h3.hlen, h3.room (fun q hq => hall q (.inr (.inr (.inl hq)))), h3.nums, h3.mem, h4.hlen, h4.room (fun q hq => hall q (.inr (.inr (.inr hq)))), h4.nums, h4.mem⟩
/-- A configuration, marks, two numbers. -/
structure RisesArg (W : World) (v : Value) (a : Option Addr) (n c : Nat) (V : List Nat) (a2 : Option Addr) (n2 c2 : Nat) (L : List Nat) (a3 : Option Addr) (m d : Nat) (M : List Mk) (i r : Nat) : Prop where
  val : v = .agg #[.slice a n c, .slice a2 n2 c2, .slice a3 m d, .int .u64 i, .int .u64 r]
  hlen : V.length = n
  room : n * 8 ≤ 140737488351232
  nums : ∀ x ∈ V, x < 18446744073709551616
  mem : Us W a V
  hlen2 : L.length = n2
  room2 : n2 * 8 ≤ 140737488351232
  mem2 : Us W a2 L
  hlen3 : M.length = m
  room3 : m * 16 ≤ 140737488351232
  nums3 : ∀ x ∈ M, x.id < 18446744073709551616 ∧ x.n < 18446744073709551616
  mem3 : Ms W a3 M
  hi : i < 18446744073709551616
  hr : r < 18446744073709551616
theorem cellsRises : Try.prog.cellsOf 52 = 5 := by kernel_rfl
set_option maxRecDepth 100000 in
set_option maxHeartbeats 4000000 in
theorem risesArg_of {H : Type} {enc : TypeId × Value → H} {W : World} {r : Reach} {b0 : Nat} {v : Value} {d : DataW H} {p : List MemPlace} {ts : List TypeId} {ds : List (DataW H)} {j : Nat}
    (hv : Value.okWide Try.prog W r b0 52 v) (h : DataW.Trod enc Try.prog W 0 (fun _ => true) true 52 v d p) (hlt : ∀ x ∈ p, x.block < W.heap.size)
    (hZ : (DataW.weightsEach Try.prog ts ds).all (· ≤ reachBytes) = true) (hj : ts[j]? = some 52) (hd : ds[j]? = some d) : ∃ a n c V a2 n2 c2 L a3 m e M i s, RisesArg W v a n c V a2 n2 c2 L a3 m e M i s := by
  obtain ⟨cs, rfl, hsz⟩ := okWide_struct Try.underlying52 hv
  rw [cellsRises] at hsz
  obtain ⟨fuel, hf⟩ := h
  obtain ⟨z0, z1, z2, z3, n', hz, _, u0, u1, u2, u3⟩ := trod_struct4 Try.underlying52 hf
  obtain ⟨l⟩ := cs
  match l, hsz with
  | [x0, x1, x2, x3, x4], _ =>
    obtain ⟨zi, e1, h1, wi⟩ := DataW.trod_int Try.underlying30 u2
    obtain ⟨zt, e2, h2, wt⟩ := DataW.trod_int Try.underlying30 u3
    simp only [cellsU64, Value.cells] at e1 e2
    simp at e1 e2
    subst e1 e2
    have u0' : DataW.trod enc Try.prog W 0 (fun _ => true) true n' 24 [x0, x1] = some z0 := by
      simp only [cellsConf, Value.cells] at u0; simpa using u0
    have u1' : DataW.trod enc Try.prog W 0 (fun _ => true) true n' 29 [x2] = some z1 := by
      simp only [cellsMs, Value.cells] at u1; simpa using u1
    simp only [Prod.mk.injEq] at hz
    obtain ⟨a, n, c, V, a2, n2, c2, L, d1, d2, hr⟩ := cfRow_of rfl u0' (fun x hx => hlt x (by rw [hz.2]; simp [hx]))
    obtain ⟨a3, m, e, M, rfl, h3⟩ := msRow_of u1' (fun x hx => hlt x (by rw [hz.2]; simp [hx]))
    obtain ⟨ni, rfl, bi⟩ := u64_nat wi
    obtain ⟨nt, rfl, bt⟩ := u64_nat wt
    have hde := hr.datum
    have hcs := hr.cells
    simp only [List.cons.injEq, and_true] at hcs
    obtain ⟨rfl, rfl⟩ := hcs
    have hall : ∀ q, q ∈ d1.weights Try.prog 22 ∨ q ∈ d2.weights Try.prog 22 ∨ q ∈ z1.1.weights Try.prog 29 → q ≤ 140737488351232 := fun q hq => by
      have := List.all_eq_true.1 hZ _ (DataW.weights_mem_each hj hd q (by
        rw [hz.1, hde]
        simp only [DataW.weights, DataW.weightsEach, Try.underlying52, Try.underlying24, List.map_cons, List.map_nil, List.mem_append, List.append_nil]
        rcases hq with hq | hq | hq
        · exact .inl (.inl hq)
        · exact .inl (.inr hq)
        · exact .inr (.inl hq)))
      exact of_decide_eq_true this
    exact ⟨a, n, c, V, a2, n2, c2, L, a3, m, e, M, ni, nt, rfl, hr.row.hlen, hr.row.room (fun q hq => hall q (.inl hq)), hr.row.nums, hr.row.mem, hr.row2.hlen, hr.row2.room (fun q hq => hall q (.inr (.inl hq))), hr.row2.mem, h3.hlen, h3.room (fun q hq => hall q (.inr (.inr hq))), h3.nums, h3.mem, bi, bt⟩
end Go.Proofs.Ytmnakfonfpdneaa
