/- The argument of BallotOne: a configuration, requests, an order, a term. -/
import Derived.Test.YtmcmanjniloeaaaRu
namespace Go.Proofs.Ytmcmanjniloeaaa
open Go.ChangeShapes Go.WideShapes Go.ChangeAt Go.RowKit Go.Deep Go.Joins

/-- What the law is asked of. -/
structure BoneArg (W : World) (v : Value) (a : Option Addr) (n c : Nat) (V : List Nat) (a2 : Option Addr) (n2 c2 : Nat) (L : List Nat) (a3 : Option Addr) (m d : Nat) (A : List Ak) (a4 : Option Addr) (q e : Nat) (O : List Int) (t : Nat) : Prop where
  val : v = .agg #[.slice a n c, .slice a2 n2 c2, .slice a3 m d, .slice a4 q e, .int .u64 t]
  hlen : V.length = n
  hcap : n ≤ c
  hmax : c ≤ 9223372036854775807
  room : n * 8 ≤ 140737488351232
  mem : Us W a V
  hlen2 : L.length = n2
  room2 : n2 * 8 ≤ 140737488351232
  mem2 : Us W a2 L
  hlen3 : A.length = m
  room3 : m * 40 ≤ 140737488351232
  mem3 : Aks W a3 A
  hlen4 : O.length = q
  room4 : q * 8 ≤ 140737488351232
  mem4 : Rw 1 inC W a4 O
  nums4 : ∀ z ∈ O, -9223372036854775808 ≤ z ∧ z ≤ 9223372036854775807
theorem cellsBone : Try.prog.cellsOf 44 = 5 := by kernel_rfl
theorem cellsAks : Try.prog.cellsOf 37 = 1 := by kernel_rfl
theorem cellsInts : Try.prog.cellsOf 42 = 1 := by kernel_rfl
theorem bytesInt : Try.prog.bytesOf 3 = 8 := by kernel_rfl
set_option maxRecDepth 100000 in
set_option maxHeartbeats 4000000 in
theorem boneArg_of {H : Type} {enc : TypeId × Value → H} {W : World} {r : Reach} {b0 : Nat} {v : Value} {d : DataW H} {p : List MemPlace} {ts : List TypeId} {ds : List (DataW H)} {j : Nat}
    (hv : Value.okWide Try.prog W r b0 44 v) (h : DataW.Trod enc Try.prog W 0 (fun _ => true) true 44 v d p) (hlt : ∀ x ∈ p, x.block < W.heap.size)
    (hZ : (DataW.weightsEach Try.prog ts ds).all (· ≤ reachBytes) = true) (hj : ts[j]? = some 44) (hd : ds[j]? = some d) : ∃ a n c V a2 n2 c2 L a3 m d' A a4 q e O t, BoneArg W v a n c V a2 n2 c2 L a3 m d' A a4 q e O t := by
  obtain ⟨cs, rfl, hsz⟩ := okWide_struct Try.underlying44 hv
  rw [cellsBone] at hsz
  obtain ⟨fuel, hf⟩ := h
  obtain ⟨z0, z1, z2, z3, n', hz, _, u0, u1, u2, u3⟩ := trod_struct4 Try.underlying44 hf
  obtain ⟨l⟩ := cs
  match l, hsz with
  | [x0, x1, x2, x3, x4], _ =>
    have u0' : DataW.trod enc Try.prog W 0 (fun _ => true) true n' 41 [x0, x1] = some z0 := by
      simp only [cellsConf, Value.cells] at u0; simpa using u0
    have u1' : DataW.trod enc Try.prog W 0 (fun _ => true) true n' 37 [x2] = some z1 := by
      simp only [cellsAks, Value.cells] at u1; simpa using u1
    have u2' : DataW.trod enc Try.prog W 0 (fun _ => true) true n' 42 [x3] = some z2 := by
      simp only [cellsInts, Value.cells] at u2; simpa using u2
    obtain ⟨zt, e1, h1, wt⟩ := DataW.trod_int Try.underlying22 u3
    simp only [cellsU64, Value.cells] at e1
    simp at e1
    subst e1
    obtain ⟨nt, rfl, bt⟩ := u64_nat wt
    simp only [Prod.mk.injEq] at hz
    obtain ⟨a, n, c, V, a2, n2, c2, L, d1, d2, hr⟩ := cfRow_of rfl u0' (fun x hx => hlt x (by rw [hz.2]; simp [hx]))
    obtain ⟨a3, m, c3, A, rfl, h3⟩ := rowOf_of (⟨0, 0, 0, 0, false⟩ : Ak) (fun cs x _ => cs = akC x) Try.underlying37 cellsAsk (by decide) (fun f cs y hsz ht _ => akRead hsz ht) u1' (fun x hx => hlt x (by rw [hz.2]; simp [hx]))
    obtain ⟨a4, q, e, O, rfl, h4⟩ := rowOf_of (0 : Int) (fun cs x _ => cs = inC x ∧ -9223372036854775808 ≤ x ∧ x ≤ 9223372036854775807) Try.underlying42 cellsInt (by decide) (fun f cs y hsz ht _ => intRead hsz ht) u2' (fun x hx => hlt x (by rw [hz.2]; simp [hx]))
    have hde := hr.datum
    have hcs := hr.cells
    simp only [List.cons.injEq, and_true] at hcs
    obtain ⟨rfl, rfl⟩ := hcs
    have hall : ∀ q, q ∈ d1.weights Try.prog 39 ∨ q ∈ d2.weights Try.prog 39 ∨ q ∈ z1.1.weights Try.prog 37 ∨ q ∈ z2.1.weights Try.prog 42 → q ≤ 140737488351232 := fun q hq => by
      have := List.all_eq_true.1 hZ _ (DataW.weights_mem_each hj hd q (by
        rw [hz.1, hde]
        simp only [DataW.weights, DataW.weightsEach, Try.underlying44, Try.underlying41, List.map_cons, List.map_nil, List.mem_append, List.append_nil]
        rcases hq with hq | hq | hq | hq
        · exact .inl (.inl hq)
        · exact .inl (.inr hq)
        · exact .inr (.inl hq)
        · exact .inr (.inr (.inl hq))))
      exact of_decide_eq_true this
    exact ⟨a, n, c, V, a2, n2, c2, L, a3, m, c3, A, a4, q, e, O, nt, ⟨rfl, hr.row.hlen, hr.row.hcap, maxLen63 hr.row.hmax, hr.row.small bytesU64 (fun q hq => hall q (.inl hq)), hr.row.us (fun _ _ _ h => h.1), hr.row2.hlen, hr.row2.small bytesU64 (fun q hq => hall q (.inr (.inl hq))), hr.row2.us (fun _ _ _ h => h.1), h3.hlen, h3.small bytesAsk (fun q hq => hall q (.inr (.inr (.inl hq)))), h3.rw (fun _ _ _ h => h), h4.hlen, h4.small bytesInt (fun q hq => hall q (.inr (.inr (.inr hq)))), h4.rw (fun _ _ _ h => h.1), h4.all (fun _ _ _ h => h.2)⟩⟩
end Go.Proofs.Ytmcmanjniloeaaa
