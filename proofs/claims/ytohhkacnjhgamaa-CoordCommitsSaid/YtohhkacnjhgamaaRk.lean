/- Arguments that are orders, transactions or coordinators: what their reading gives. -/
import Derived.Test.YtohhkacnjhgamaaPq
namespace Go.Proofs.Ytohhkacnjhgamaa
open Go.ChangeShapes Go.WideShapes Go.ChangeAt Go.RowKit Go.Deep Go.Joins

theorem cellsStr : Try.prog.cellsOf 9 = 1 := by kernel_rfl
theorem cellsU64 : Try.prog.cellsOf 25 = 1 := by kernel_rfl
theorem cellsInt : Try.prog.cellsOf 3 = 1 := by kernel_rfl
theorem cellsBoo : Try.prog.cellsOf 4 = 1 := by kernel_rfl
theorem cellsTx : Try.prog.cellsOf 27 = 2 := by kernel_rfl
theorem cellsOrder : Try.prog.cellsOf 46 = 7 := by kernel_rfl
theorem cellsDeal : Try.prog.cellsOf 31 = 4 := by kernel_rfl
theorem cellsCoord : Try.prog.cellsOf 24 = 1 := by kernel_rfl
theorem cellsPus : Try.prog.cellsOf 44 = 1 := by kernel_rfl
theorem cellsU64s : Try.prog.cellsOf 29 = 1 := by kernel_rfl
theorem cellsDeals : Try.prog.cellsOf 22 = 1 := by kernel_rfl
theorem bytesU64 : Try.prog.bytesOf 25 = 8 := by kernel_rfl
theorem bytesOrder : Try.prog.bytesOf 46 = 96 := by kernel_rfl
theorem bytesDeal : Try.prog.bytesOf 31 = 48 := by kernel_rfl
/-- All that a reading holds is small. -/
def Sm {H : Type} (T : TypeId) (d : DataW H) : Prop := ∀ q ∈ d.weights Try.prog T, q ≤ 140737488351232
section
variable {H : Type} {enc : TypeId × Value → H} {W : World} {fuel : Nat} {cs : List Value} {y : DataW H × List MemPlace}
theorem open_st {t : TypeId} {fs : Array Field} (ht : Try.prog.underlying t = some (.struct fs)) (h : DataW.trod enc Try.prog W 0 (fun _ => true) true fuel t cs = some y) (hlt : ∀ q ∈ y.2, q.block < W.heap.size) :
    ∃ n, ∀ (i : Nat) (f : Field), fs[i]? = some f → ∃ z, DataW.trod enc Try.prog W 0 (fun _ => true) true n f.type ((cs.drop f.offset).take (Try.prog.cellsOf f.type)) = some z ∧ (∀ q ∈ z.2, q.block < W.heap.size) ∧ (Sm t y.1 → Sm f.type z.1) := by
  obtain ⟨xs, n, _, rfl, _, hlen, hf⟩ := DataW.trod_struct ht h
  refine ⟨n, fun i f hi => ?_⟩
  have hl := (Array.getElem?_eq_some_iff.1 hi).1
  have hz : xs[i]? = some (xs[i]'(by omega)) := List.getElem?_eq_getElem _
  refine ⟨_, (hf i f hi).trans hz, fun q hq => hlt q (List.mem_flatMap.2 ⟨_, List.getElem_mem _, hq⟩), fun hs q hq => hs q ?_⟩
  simp only [DataW.weights, ht]
  exact DataW.weights_mem_each (j := i) (by rw [List.getElem?_map, Array.getElem?_toList, hi]; rfl) (by rw [List.getElem?_map, hz]; rfl) q hq
end
set_option maxRecDepth 100000 in
theorem txRead {H : Type} {enc : TypeId × Value → H} {W : World} {f : Nat} {cs : List Value} {y : DataW H × List MemPlace} (hsz : cs.length = 2)
    (ht : DataW.trod enc Try.prog W 0 (fun _ => true) true f 27 cs = some y) : ∃ x : Tx, cs = txC x ∧ okX x := by
  obtain ⟨z0, z1, n', hz, _, u0, u1⟩ := trod_struct2 Try.underlying27 ht
  match cs, hsz with
  | [c0, c1], _ =>
    obtain ⟨z, e0, _, w0⟩ := DataW.trod_int Try.underlying25 u0
    obtain ⟨z', e1, _, w1⟩ := DataW.trod_int Try.underlying25 u1
    simp only [cellsU64] at e0 e1
    simp at e0 e1
    subst e0 e1
    obtain ⟨a, rfl, ha⟩ := u64_nat w0
    obtain ⟨i, rfl, hi⟩ := u64_nat w1
    exact ⟨⟨a, i⟩, rfl, ha, hi⟩
theorem RowOf.allS {H α : Type} {W : World} {k : Nat} {P : List Value → α → DataW H → Prop} {E : TypeId} {a : Option Addr} {n c : Nat} {L : List α} {S : Nat → Prop} {Q : α → Prop}
    (h : RowOf W k P E a n c L S) (hP : ∀ cs x d, P cs x d → (∀ q ∈ d.weights Try.prog E, S q) → Q x) : ∀ x ∈ L, Q x := fun x hx => by
  obtain ⟨j, hj⟩ := List.mem_iff_getElem?.1 hx
  obtain ⟨b, off, cs, d, e, hlt, _, hc, hp, hq⟩ := h.mem j x hj
  exact hP _ _ _ hp hq
/-- A number's reading. -/
def NuS {H : Type} (cs : List Value) (x : Nat) (_ : DataW H) : Prop := cs = numC x
set_option maxRecDepth 100000 in
theorem nuRead {H : Type} {enc : TypeId × Value → H} {W : World} {f : Nat} {cs : List Value} {y : DataW H × List MemPlace} (hsz : cs.length = 1)
    (ht : DataW.trod enc Try.prog W 0 (fun _ => true) true f 25 cs = some y) : ∃ x : Nat, NuS cs x y.1 := by
  obtain ⟨z, e0, _, w0⟩ := DataW.trod_int Try.underlying25 ht
  match cs, hsz with
  | [c0], _ =>
    simp at e0
    subst e0
    obtain ⟨a, rfl, _⟩ := u64_nat w0
    exact ⟨a, rfl⟩
set_option maxRecDepth 100000 in
theorem nuRow_of {H : Type} {enc : TypeId × Value → H} {W : World} {fuel : Nat} {c : Value} {y : DataW H × List MemPlace}
    (hf : DataW.trod enc Try.prog W 0 (fun _ => true) true fuel 29 [c] = some y) (hlt : ∀ x ∈ y.2, x.block < W.heap.size) :
    ∃ a n cap P, c = .slice a n cap ∧ P.length = n ∧ n ≤ cap ∧ cap ≤ maxLen ∧ Nus W a P ∧ (Sm 29 y.1 → n * 8 ≤ 140737488351232) := by
  obtain ⟨a, n, cap, L, e, h⟩ := rowOf_of (0 : Nat) NuS Try.underlying29 cellsU64 (by decide) (fun f cs y hsz ht _ => nuRead hsz ht) hf hlt
  exact ⟨a, n, cap, L, e, h.hlen, h.hcap, h.hmax, h.rw (fun cs x d hp => hp), fun hS => h.small bytesU64 hS⟩
/-- An order's reading. -/
def OrS {H : Type} (W : World) (cs : List Value) (x : OdM) (d : DataW H) : Prop := cs = odC x ∧ Nus W x.a x.x.parts ∧ okX x.x.t ∧ (Sm 46 d → x.x.parts.length ≤ 140737488351232)
set_option maxRecDepth 100000 in
set_option maxHeartbeats 4000000 in
theorem orRead {H : Type} {enc : TypeId × Value → H} {W : World} {f : Nat} {cs : List Value} {y : DataW H × List MemPlace} (hsz : cs.length = 7)
    (ht : DataW.trod enc Try.prog W 0 (fun _ => true) true f 46 cs = some y) (hlt : ∀ q ∈ y.2, q.block < W.heap.size) : ∃ x : OdM, OrS W cs x y.1 := by
  obtain ⟨n, h⟩ := open_st Try.underlying46 ht hlt
  obtain ⟨z0, u0, _, _⟩ := h 0 _ rfl
  obtain ⟨z1, u1, _, _⟩ := h 1 _ rfl
  obtain ⟨z2, u2, _, _⟩ := h 2 _ rfl
  obtain ⟨z3, u3, _, _⟩ := h 3 _ rfl
  obtain ⟨z4, u4, _, _⟩ := h 4 _ rfl
  obtain ⟨z5, u5, l5, s5⟩ := h 5 _ rfl
  match cs, hsz with
  | [c0, c1, c2, c3, c4, c5, c6], _ =>
    simp only [List.getElem_toArray, List.getElem_cons_zero, List.getElem_cons_succ, cellsInt, cellsTx, cellsStr, cellsPus, cellsBoo, cellsU64s] at u0 u1 u2 u3 u4 u5 s5
    obtain ⟨kd, e0, _, _⟩ := DataW.trod_int Try.underlying3 u0
    have u1' : DataW.trod enc Try.prog W 0 (fun _ => true) true n 27 [c1, c2] = some z1 := by simpa using u1
    obtain ⟨t, ht1, hto⟩ := txRead rfl u1'
    obtain ⟨k, e2, _, _⟩ := DataW.trod_string Try.underlying9 u2
    have u3' : DataW.trod enc Try.prog W 0 (fun _ => true) true n 44 [c4] = some z3 := by simpa using u3
    have e3 : ∃ qa qn qc, c4 = .slice qa qn qc := by
      rcases open_slice Try.underlying44 u3' with ⟨hcs, _⟩ | ⟨a', len, cap', m', n', D, Pl, hcs, _⟩
      · simp at hcs; exact ⟨_, _, _, hcs⟩
      · simp at hcs; exact ⟨_, _, _, hcs⟩
    obtain ⟨qa, qn, qc, rfl⟩ := e3
    obtain ⟨g, e4, _⟩ := DataW.trod_bool Try.underlying4 u4
    have u5' : DataW.trod enc Try.prog W 0 (fun _ => true) true n 29 [c6] = some z5 := by simpa using u5
    obtain ⟨a, m, cap, P, e5, hm, _, _, hP, hsm⟩ := nuRow_of u5' l5
    simp at e0 e2 e4
    simp only [txC, List.cons.injEq, and_true] at ht1
    obtain ⟨rfl, rfl⟩ := ht1
    subst e0 e2 e4 e5 hm
    exact ⟨⟨⟨kd, t, P, g⟩, k, qa, qn, qc, a, cap⟩, rfl, hP, hto, fun hs => by have := hsm (s5 hs); simp only; omega⟩
set_option maxRecDepth 100000 in
theorem orRow_of {H : Type} {enc : TypeId × Value → H} {W : World} {fuel : Nat} {c : Value} {y : DataW H × List MemPlace}
    (hf : DataW.trod enc Try.prog W 0 (fun _ => true) true fuel 38 [c] = some y) (hlt : ∀ x ∈ y.2, x.block < W.heap.size) (hS : Sm 38 y.1) :
    ∃ a n cap L, c = .slice a n cap ∧ OdIn W a n cap L := by
  obtain ⟨a, n, cap, L, e, h⟩ := rowOf_of (⟨⟨0, ⟨0, 0⟩, [], false⟩, ⟨#[]⟩, none, 0, 0, none, 0⟩ : OdM) (OrS W) Try.underlying38 cellsOrder (by decide) (fun f cs y hsz ht hl => orRead hsz ht hl) hf hlt
  refine ⟨a, n, cap, L, e, h.hlen, ?_, h.rw (fun cs x d hp => hp.1), h.allS (fun cs x d hp hq => ⟨hp.2.1, hp.2.2.2 (fun q hh => hS q (hq q hh)), hp.2.2.1⟩)⟩
  have := h.small bytesOrder hS
  omega
set_option maxRecDepth 100000 in
theorem orsArg_of {H : Type} {enc : TypeId × Value → H} {W : World} {r : Reach} {b0 : Nat} {v : Value} {d : DataW H} {p : List MemPlace} {ts : List TypeId} {ds : List (DataW H)} {j : Nat}
    (hv : Value.okWide Try.prog W r b0 38 v) (h : DataW.Trod enc Try.prog W 0 (fun _ => true) true 38 v d p) (hlt : ∀ x ∈ p, x.block < W.heap.size)
    (hZ : (DataW.weightsEach Try.prog ts ds).all (· ≤ reachBytes) = true) (hj : ts[j]? = some 38) (hd : ds[j]? = some d) : ∃ a n c L, v = .slice a n c ∧ OdIn W a n c L := by
  obtain ⟨a0, l0, c0, rfl⟩ := okWide_slice Try.underlying38 hv
  obtain ⟨fuel, hf⟩ := h
  exact orRow_of (c := .slice a0 l0 c0) (by simpa [Value.cells] using hf) hlt (sized_of hZ hj hd)
set_option maxRecDepth 100000 in
theorem orArg_of {H : Type} {enc : TypeId × Value → H} {W : World} {r : Reach} {b0 : Nat} {v : Value} {d : DataW H} {p : List MemPlace} {ts : List TypeId} {ds : List (DataW H)} {j : Nat}
    (hv : Value.okWide Try.prog W r b0 46 v) (h : DataW.Trod enc Try.prog W 0 (fun _ => true) true 46 v d p) (hlt : ∀ x ∈ p, x.block < W.heap.size)
    (hZ : (DataW.weightsEach Try.prog ts ds).all (· ≤ reachBytes) = true) (hj : ts[j]? = some 46) (hd : ds[j]? = some d) :
    ∃ y : OdM, v = odV y.x y.key y.q y.qn y.qc y.a y.c ∧ Nus W y.a y.x.parts ∧ okX y.x.t ∧ y.x.parts.length ≤ 140737488351232 := by
  obtain ⟨cs, rfl, hsz⟩ := okWide_struct Try.underlying46 hv
  rw [cellsOrder] at hsz
  obtain ⟨fuel, hf⟩ := h
  obtain ⟨x, h1, h2, h3, h4⟩ := orRead (by simpa [Value.cells] using hsz) hf hlt
  refine ⟨x, ?_, h2, h3, h4 (sized_of hZ hj hd)⟩
  simp only [Value.cells] at h1
  obtain ⟨l⟩ := cs
  simp only at h1
  rw [h1]; rfl
set_option maxRecDepth 100000 in
theorem txArg_of {H : Type} {enc : TypeId × Value → H} {W : World} {r : Reach} {b0 : Nat} {v : Value} {d : DataW H} {p : List MemPlace}
    (hv : Value.okWide Try.prog W r b0 27 v) (h : DataW.Trod enc Try.prog W 0 (fun _ => true) true 27 v d p) : ∃ x : Tx, v = txV x ∧ okX x := by
  obtain ⟨cs, rfl, hsz⟩ := okWide_struct Try.underlying27 hv
  rw [cellsTx] at hsz
  obtain ⟨fuel, hf⟩ := h
  obtain ⟨x, h1, h2⟩ := txRead (by simpa [Value.cells] using hsz) hf
  refine ⟨x, ?_, h2⟩
  simp only [Value.cells] at h1
  obtain ⟨l⟩ := cs
  simp only at h1
  rw [h1]; rfl
/-- A deal's reading. -/
def DlS {H : Type} (W : World) (cs : List Value) (x : DlM) (d : DataW H) : Prop := cs = dlC x ∧ Nus W x.a x.x.parts ∧ okX x.x.t ∧ (x.x.parts.length ≤ x.c ∧ x.c ≤ maxLen) ∧ (Sm 31 d → x.x.parts.length * 8 ≤ 140737488351232)
set_option maxRecDepth 100000 in
set_option maxHeartbeats 4000000 in
theorem dlRead {H : Type} {enc : TypeId × Value → H} {W : World} {f : Nat} {cs : List Value} {y : DataW H × List MemPlace} (hsz : cs.length = 4)
    (ht : DataW.trod enc Try.prog W 0 (fun _ => true) true f 31 cs = some y) (hlt : ∀ q ∈ y.2, q.block < W.heap.size) : ∃ x : DlM, DlS W cs x y.1 := by
  obtain ⟨n, h⟩ := open_st Try.underlying31 ht hlt
  obtain ⟨z0, u0, _, _⟩ := h 0 _ rfl
  obtain ⟨z1, u1, l1, s1⟩ := h 1 _ rfl
  obtain ⟨z2, u2, _, _⟩ := h 2 _ rfl
  match cs, hsz with
  | [c0, c1, c2, c3], _ =>
    simp only [List.getElem_toArray, List.getElem_cons_zero, List.getElem_cons_succ, cellsTx, cellsInt, cellsU64s] at u0 u1 u2 s1
    have u0' : DataW.trod enc Try.prog W 0 (fun _ => true) true n 27 [c0, c1] = some z0 := by simpa using u0
    obtain ⟨t, ht1, hto⟩ := txRead rfl u0'
    have u1' : DataW.trod enc Try.prog W 0 (fun _ => true) true n 29 [c2] = some z1 := by simpa using u1
    obtain ⟨a, m, cap, P, e1, hm, hc1, hc2, hP, hsm⟩ := nuRow_of u1' l1
    obtain ⟨st, e2, _, _⟩ := DataW.trod_int Try.underlying3 u2
    simp at e2
    simp only [txC, List.cons.injEq, and_true] at ht1
    obtain ⟨rfl, rfl⟩ := ht1
    subst e1 e2 hm
    exact ⟨⟨⟨t, P, st⟩, a, cap⟩, rfl, hP, hto, ⟨hc1, hc2⟩, fun hs => hsm (s1 hs)⟩
/-- A coordinator as it comes in. -/
structure CoIn (W : World) (L : List Dl) (A : Cad) : Prop where
  m : CoM W L A
  len : L.length * 48 ≤ 140737488351232
  parts : ∀ x ∈ L, x.parts.length * 8 ≤ 140737488351232
  tx : ∀ x ∈ L, okX x.t
set_option maxRecDepth 100000 in
set_option maxHeartbeats 4000000 in
theorem coArg_of {H : Type} {enc : TypeId × Value → H} {W : World} {r : Reach} {b0 : Nat} {v : Value} {d : DataW H} {p : List MemPlace} {ts : List TypeId} {ds : List (DataW H)} {j : Nat}
    (hv : Value.okWide Try.prog W r b0 24 v) (h : DataW.Trod enc Try.prog W 0 (fun _ => true) true 24 v d p) (hlt : ∀ x ∈ p, x.block < W.heap.size)
    (hZ : (DataW.weightsEach Try.prog ts ds).all (· ≤ reachBytes) = true) (hj : ts[j]? = some 24) (hd : ds[j]? = some d) : ∃ L A, v = coV L A ∧ CoIn W L A := by
  obtain ⟨cs, rfl, hsz⟩ := okWide_struct Try.underlying24 hv
  rw [cellsCoord] at hsz
  obtain ⟨fuel, hf⟩ := h
  obtain ⟨n', h⟩ := open_st Try.underlying24 hf hlt
  obtain ⟨z0, u0, l0, s0⟩ := h 0 _ rfl
  have hS : Sm 24 d := sized_of hZ hj hd
  obtain ⟨l⟩ := cs
  match l, hsz with
  | [c0], _ =>
    simp only [List.getElem_toArray, List.getElem_cons_zero, cellsDeals, Value.cells] at u0 s0
    obtain ⟨a, n, cap, M, e, hR⟩ := rowOf_of (⟨⟨⟨0, 0⟩, [], 0⟩, none, 0⟩ : DlM) (DlS W) Try.underlying22 cellsDeal (by decide) (fun f cs y hsz ht hl => dlRead hsz ht hl) (by simpa using u0) l0
    subst e
    have hsm := hR.small bytesDeal (s0 hS)
    have hn := hR.hlen
    have hall := hR.allS (Q := fun x => Nus W x.a x.x.parts ∧ okX x.x.t ∧ (x.x.parts.length ≤ x.c ∧ x.c ≤ maxLen) ∧ x.x.parts.length * 8 ≤ 140737488351232) (fun cs x d hp hq => ⟨hp.2.1, hp.2.2.1, hp.2.2.2.1, hp.2.2.2.2 (fun q hh => s0 hS q (hq q hh))⟩)
    have hback : ∀ x ∈ M.map (fun y => y.x), ∃ y ∈ M, y.x = x := fun x hx => by simpa using hx
    refine ⟨M.map fun y => y.x, ⟨a, cap, M⟩, by simp [hn], ⟨⟨rfl, hR.rw (fun cs x d hp => hp.1), fun y hy => (hall y hy).1, ?_, fun y hy => (hall y hy).2.2.1⟩, by simp only [List.length_map]; omega, fun x hx => ?_, fun x hx => ?_⟩⟩
    · simp only [List.length_map]
      have := hR.hcap
      have := hR.hmax
      omega
    · obtain ⟨y, hy, rfl⟩ := hback x hx
      exact (hall y hy).2.2.2
    · obtain ⟨y, hy, rfl⟩ := hback x hx
      exact (hall y hy).2.1
end Go.Proofs.Ytohhkacnjhgamaa
