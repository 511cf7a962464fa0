/- Arguments that are rows, puts, or hold them: what their reading gives. -/
import Derived.Test.YtifdgjmbecilhaaDoorUf
namespace Go.Proofs.YtifdgjmbecilhaaDoor
open Go.ChangeShapes Go.WideShapes Go.ChangeAt Go.RowKit Go.Deep Go.Joins

theorem cellsStr : Tryd.prog.cellsOf 9 = 1 := by kernel_rfl
theorem cellsU64 : Tryd.prog.cellsOf 24 = 1 := by kernel_rfl
theorem cellsBoo : Tryd.prog.cellsOf 4 = 1 := by kernel_rfl
theorem cellsRow : Tryd.prog.cellsOf 26 = 3 := by kernel_rfl
theorem cellsPut : Tryd.prog.cellsOf 37 = 3 := by kernel_rfl
theorem bytesRow' : Tryd.prog.bytesOf 26 = 40 := by kernel_rfl
theorem bytesPut : Tryd.prog.bytesOf 37 = 40 := by kernel_rfl
theorem cellsRos : Tryd.prog.cellsOf 22 = 1 := by kernel_rfl
theorem cellsPus : Tryd.prog.cellsOf 31 = 1 := by kernel_rfl
theorem cellsKeeps : Tryd.prog.cellsOf 56 = 4 := by kernel_rfl
/-- A row's reading: its cells; each text's length is among what is weighed. -/
def RoP {H : Type} (cs : List Value) (x : Ro) (d : DataW H) : Prop := cs = roC x ∧ x.key.size ∈ d.weights Tryd.prog 26 ∧ x.val.size ∈ d.weights Tryd.prog 26
def PuP {H : Type} (cs : List Value) (x : Pu) (d : DataW H) : Prop := cs = puC x ∧ x.key.size ∈ d.weights Tryd.prog 37 ∧ x.val.size ∈ d.weights Tryd.prog 37
theorem mem_str {H : Type} (P : Program) (t : TypeId) (s : ByteArray) : s.size ∈ DataW.weights P t (.lit (.string s.data.toList) : DataW H) := by
  rw [DataW.weights]; exact List.mem_singleton.2 (Array.length_toList (xs := s.data)).symm
theorem wEach {H : Type} (P : Program) (t0 t1 t2 : TypeId) (d0 d1 d2 : DataW H) (q : Nat) (h : q ∈ d0.weights P t0 ∨ q ∈ d1.weights P t1) : q ∈ DataW.weightsEach P [t0, t1, t2] [d0, d1, d2] := by
  simp only [DataW.weightsEach, List.mem_append]
  rcases h with h | h
  · exact .inl h
  · exact .inr (.inl h)
set_option maxRecDepth 100000 in
set_option maxHeartbeats 1000000 in
theorem roRead {H : Type} {enc : TypeId × Value → H} {W : World} {f : Nat} {cs : List Value} {y : DataW H × List MemPlace} (hsz : cs.length = 3)
    (ht : DataW.trod enc Tryd.prog W 0 (fun _ => true) true f 26 cs = some y) : ∃ x : Ro, RoP cs x y.1 := by
  obtain ⟨z0, z1, z2, n', hz, _, u0, u1, u2⟩ := trod_struct3 Tryd.underlying26 ht
  match cs, hsz with
  | [c0, c1, c2], _ =>
    obtain ⟨s0, e0, h0, _⟩ := DataW.trod_string Tryd.underlying9 u0
    obtain ⟨s1, e1, h1, _⟩ := DataW.trod_string Tryd.underlying9 u1
    obtain ⟨z, e2, h2, wz⟩ := DataW.trod_int Tryd.underlying24 u2
    simp only [cellsStr, cellsU64] at e0 e1 e2
    simp at e0 e1 e2
    subst e0 e1 e2
    have hb := bounds_u64 wz
    obtain ⟨m, rfl⟩ : ∃ m : Nat, z = m := ⟨z.toNat, by omega⟩
    refine ⟨⟨s0, s1, m⟩, rfl, ?_, ?_⟩
    · rw [hz, h0, h1, h2]; simp only [DataW.weights, Tryd.underlying26, List.map_cons, List.map_nil]
      exact wEach _ _ _ _ _ _ _ _ (.inl (mem_str _ _ _))
    · rw [hz, h0, h1, h2]; simp only [DataW.weights, Tryd.underlying26, List.map_cons, List.map_nil]
      exact wEach _ _ _ _ _ _ _ _ (.inr (mem_str _ _ _))
set_option maxRecDepth 100000 in
set_option maxHeartbeats 1000000 in
theorem puRead {H : Type} {enc : TypeId × Value → H} {W : World} {f : Nat} {cs : List Value} {y : DataW H × List MemPlace} (hsz : cs.length = 3)
    (ht : DataW.trod enc Tryd.prog W 0 (fun _ => true) true f 37 cs = some y) : ∃ x : Pu, PuP cs x y.1 := by
  obtain ⟨z0, z1, z2, n', hz, _, u0, u1, u2⟩ := trod_struct3 Tryd.underlying37 ht
  match cs, hsz with
  | [c0, c1, c2], _ =>
    obtain ⟨s0, e0, h0, _⟩ := DataW.trod_string Tryd.underlying9 u0
    obtain ⟨s1, e1, h1, _⟩ := DataW.trod_string Tryd.underlying9 u1
    obtain ⟨g, e2, h2⟩ := DataW.trod_bool Tryd.underlying4 u2
    simp only [cellsStr, cellsBoo] at e0 e1 e2
    simp at e0 e1 e2
    subst e0 e1 e2
    refine ⟨⟨s0, s1, g⟩, rfl, ?_, ?_⟩
    · rw [hz, h0, h1, h2]; simp only [DataW.weights, Tryd.underlying37, List.map_cons, List.map_nil]
      exact wEach _ _ _ _ _ _ _ _ (.inl (mem_str _ _ _))
    · rw [hz, h0, h1, h2]; simp only [DataW.weights, Tryd.underlying37, List.map_cons, List.map_nil]
      exact wEach _ _ _ _ _ _ _ _ (.inr (mem_str _ _ _))
theorem RowOf.allS {H α : Type} {W : World} {k : Nat} {P : List Value → α → DataW H → Prop} {E : TypeId} {a : Option Addr} {n c : Nat} {L : List α} {S : Nat → Prop} {Q : α → Prop}
    (h : RowOf W k P E a n c L S) (hP : ∀ cs x d, P cs x d → (∀ q ∈ d.weights Tryd.prog E, S q) → Q x) : ∀ x ∈ L, Q x := fun x hx => by
  obtain ⟨j, hj⟩ := List.mem_iff_getElem?.1 hx
  obtain ⟨b, off, cs, d, e, hlt, _, hc, hp, hq⟩ := h.mem j x hj
  exact hP _ _ _ hp hq
/-- Rows, and puts, as they come in. -/
structure RoIn (W : World) (a : Option Addr) (n c : Nat) (L : List Ro) : Prop where
  hlen : L.length = n
  hcap : n ≤ c
  hmax : c ≤ maxLen
  room : n * 40 ≤ 140737488351232
  small : smallR L
  mem : Ros W a L
structure PuIn (W : World) (a : Option Addr) (n c : Nat) (P : List Pu) : Prop where
  hlen : P.length = n
  room : n * 40 ≤ 140737488351232
  small : smallP P
  mem : Pus W a P
theorem RoIn.n {W : World} {a : Option Addr} {n c : Nat} {L : List Ro} (h : RoIn W a n c L) : n ≤ 140737488351232 := by have := h.room; omega
theorem PuIn.n {W : World} {a : Option Addr} {n c : Nat} {L : List Pu} (h : PuIn W a n c L) : n ≤ 140737488351232 := by have := h.room; omega
set_option maxRecDepth 100000 in
theorem roRow_of {H : Type} {enc : TypeId × Value → H} {W : World} {fuel : Nat} {c : Value} {y : DataW H × List MemPlace}
    (hf : DataW.trod enc Tryd.prog W 0 (fun _ => true) true fuel 22 [c] = some y) (hlt : ∀ x ∈ y.2, x.block < W.heap.size) (hS : ∀ q ∈ y.1.weights Tryd.prog 22, q ≤ 140737488351232) :
    ∃ a n cap L, c = .slice a n cap ∧ RoIn W a n cap L := by
  obtain ⟨a, n, cap, L, e, h⟩ := rowOf_of (⟨⟨#[]⟩, ⟨#[]⟩, 0⟩ : Ro) RoP Tryd.underlying22 cellsRow (by decide) (fun f cs y hsz ht _ => roRead hsz ht) hf hlt
  exact ⟨a, n, cap, L, e, h.hlen, h.hcap, h.hmax, h.small bytesRow' hS, h.allS (fun cs x d hp hq => ⟨hS _ (hq _ hp.2.1), hS _ (hq _ hp.2.2)⟩), h.rw (fun cs x d hp => hp.1)⟩
set_option maxRecDepth 100000 in
theorem puRow_of {H : Type} {enc : TypeId × Value → H} {W : World} {fuel : Nat} {c : Value} {y : DataW H × List MemPlace}
    (hf : DataW.trod enc Tryd.prog W 0 (fun _ => true) true fuel 31 [c] = some y) (hlt : ∀ x ∈ y.2, x.block < W.heap.size) (hS : ∀ q ∈ y.1.weights Tryd.prog 31, q ≤ 140737488351232) :
    ∃ a n cap L, c = .slice a n cap ∧ PuIn W a n cap L := by
  obtain ⟨a, n, cap, L, e, h⟩ := rowOf_of (⟨⟨#[]⟩, ⟨#[]⟩, false⟩ : Pu) PuP Tryd.underlying31 cellsPut (by decide) (fun f cs y hsz ht _ => puRead hsz ht) hf hlt
  exact ⟨a, n, cap, L, e, h.hlen, h.small bytesPut hS, h.allS (fun cs x d hp hq => ⟨hS _ (hq _ hp.2.1), hS _ (hq _ hp.2.2)⟩), h.rw (fun cs x d hp => hp.1)⟩
set_option maxRecDepth 100000 in
theorem rosArg_of {H : Type} {enc : TypeId × Value → H} {W : World} {r : Reach} {b0 : Nat} {v : Value} {d : DataW H} {p : List MemPlace} {ts : List TypeId} {ds : List (DataW H)} {j : Nat}
    (hv : Value.okWide Tryd.prog W r b0 22 v) (h : DataW.Trod enc Tryd.prog W 0 (fun _ => true) true 22 v d p) (hlt : ∀ x ∈ p, x.block < W.heap.size)
    (hZ : (DataW.weightsEach Tryd.prog ts ds).all (· ≤ reachBytes) = true) (hj : ts[j]? = some 22) (hd : ds[j]? = some d) : ∃ a n c L, v = .slice a n c ∧ RoIn W a n c L := by
  obtain ⟨a0, l0, c0, rfl⟩ := okWide_slice Tryd.underlying22 hv
  obtain ⟨fuel, hf⟩ := h
  exact roRow_of (c := .slice a0 l0 c0) (by simpa [Value.cells] using hf) hlt (sized_of hZ hj hd)
set_option maxRecDepth 100000 in
theorem pusArg_of {H : Type} {enc : TypeId × Value → H} {W : World} {r : Reach} {b0 : Nat} {v : Value} {d : DataW H} {p : List MemPlace} {ts : List TypeId} {ds : List (DataW H)} {j : Nat}
    (hv : Value.okWide Tryd.prog W r b0 31 v) (h : DataW.Trod enc Tryd.prog W 0 (fun _ => true) true 31 v d p) (hlt : ∀ x ∈ p, x.block < W.heap.size)
    (hZ : (DataW.weightsEach Tryd.prog ts ds).all (· ≤ reachBytes) = true) (hj : ts[j]? = some 31) (hd : ds[j]? = some d) : ∃ a n c L, v = .slice a n c ∧ PuIn W a n c L := by
  obtain ⟨a0, l0, c0, rfl⟩ := okWide_slice Tryd.underlying31 hv
  obtain ⟨fuel, hf⟩ := h
  exact puRow_of (c := .slice a0 l0 c0) (by simpa [Value.cells] using hf) hlt (sized_of hZ hj hd)
set_option maxRecDepth 100000 in
theorem putArg_of {H : Type} {enc : TypeId × Value → H} {W : World} {r : Reach} {b0 : Nat} {v : Value} {d : DataW H} {p : List MemPlace} {ts : List TypeId} {ds : List (DataW H)} {j : Nat}
    (hv : Value.okWide Tryd.prog W r b0 37 v) (h : DataW.Trod enc Tryd.prog W 0 (fun _ => true) true 37 v d p)
    (hZ : (DataW.weightsEach Tryd.prog ts ds).all (· ≤ reachBytes) = true) (hj : ts[j]? = some 37) (hd : ds[j]? = some d) : ∃ x : Pu, v = puV x ∧ x.key.size ≤ 140737488351232 ∧ x.val.size ≤ 140737488351232 := by
  obtain ⟨cs, rfl, hsz⟩ := okWide_struct Tryd.underlying37 hv
  rw [cellsPut] at hsz
  obtain ⟨fuel, hf⟩ := h
  obtain ⟨x, h1, h2, h3⟩ := puRead (by simpa [Value.cells] using hsz) hf
  have hq := sized_of hZ hj hd
  refine ⟨x, ?_, hq _ h2, hq _ h3⟩
  simp only [Value.cells] at h1
  obtain ⟨l⟩ := cs
  simp only at h1
  rw [h1]; rfl
set_option maxRecDepth 100000 in
set_option maxHeartbeats 1000000 in
theorem keepsArg_of {H : Type} {enc : TypeId × Value → H} {W : World} {r : Reach} {b0 : Nat} {v : Value} {d : DataW H} {p : List MemPlace} {ts : List TypeId} {ds : List (DataW H)} {j : Nat}
    (hv : Value.okWide Tryd.prog W r b0 56 v) (h : DataW.Trod enc Tryd.prog W 0 (fun _ => true) true 56 v d p) (hlt : ∀ x ∈ p, x.block < W.heap.size)
    (hZ : (DataW.weightsEach Tryd.prog ts ds).all (· ≤ reachBytes) = true) (hj : ts[j]? = some 56) (hd : ds[j]? = some d) :
    ∃ a n c L a2 m e P ver key, v = .agg #[.slice a n c, .slice a2 m e, .int .u64 (ver : Nat), .string key] ∧ RoIn W a n c L ∧ PuIn W a2 m e P ∧ ver < 18446744073709551616 ∧ key.size ≤ 140737488351232 := by
  obtain ⟨cs, rfl, hsz⟩ := okWide_struct Tryd.underlying56 hv
  rw [cellsKeeps] at hsz
  obtain ⟨fuel, hf⟩ := h
  obtain ⟨z0, z1, z2, z3, n', hz, _, u0, u1, u2, u3⟩ := trod_struct4 Tryd.underlying56 hf
  obtain ⟨l⟩ := cs
  match l, hsz with
  | [x0, x1, x2, x3], _ =>
    obtain ⟨y2, e2, _, w2⟩ := DataW.trod_int Tryd.underlying24 u2
    obtain ⟨s, e3, h3, _⟩ := DataW.trod_string Tryd.underlying9 u3
    simp only [cellsU64, cellsStr, Value.cells] at e2 e3
    simp at e2 e3
    subst e2 e3
    have u0' : DataW.trod enc Tryd.prog W 0 (fun _ => true) true n' 22 [x0] = some z0 := by
      simp only [cellsRos, Value.cells] at u0; simpa using u0
    have u1' : DataW.trod enc Tryd.prog W 0 (fun _ => true) true n' 31 [x1] = some z1 := by
      simp only [cellsPus, Value.cells] at u1; simpa using u1
    simp only [Prod.mk.injEq] at hz
    have hall : ∀ q, q ∈ z0.1.weights Tryd.prog 22 ∨ q ∈ z1.1.weights Tryd.prog 31 ∨ q = s.size → q ≤ 140737488351232 := fun q hq => by
      refine sized_of hZ hj hd q ?_
      rw [hz.1, h3]
      simp only [DataW.weights, DataW.weightsEach, Tryd.underlying56, List.map_cons, List.map_nil, List.mem_append, List.append_nil]
      rcases hq with hq | hq | hq
      · exact .inl hq
      · exact .inr (.inl hq)
      · exact .inr (.inr (.inr (by rw [hq]; exact List.mem_singleton.2 (Array.length_toList (xs := s.data)).symm)))
    obtain ⟨a, n, c, L, rfl, hr⟩ := roRow_of u0' (fun x hx => hlt x (by rw [hz.2]; simp [hx])) (fun q hq => hall q (.inl hq))
    obtain ⟨a2, m, e, P, rfl, hp⟩ := puRow_of u1' (fun x hx => hlt x (by rw [hz.2]; simp [hx])) (fun q hq => hall q (.inr (.inl hq)))
    obtain ⟨i2, rfl, b2⟩ := u64_nat w2
    exact ⟨a, n, c, L, a2, m, e, P, i2, s, rfl, hr, hp, b2, hall _ (.inr (.inr rfl))⟩
end Go.Proofs.YtifdgjmbecilhaaDoor
