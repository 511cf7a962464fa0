/- Arguments that are orders or transactions, or hold them: what their reading gives. -/
import Derived.Test.YthgnecggdlamfaaYr
namespace Go.Proofs.Ythgnecggdlamfaa
open Go.ChangeShapes Go.WideShapes Go.ChangeAt Go.RowKit Go.Deep Go.Joins

theorem cellsStr : Try.prog.cellsOf 9 = 1 := by kernel_rfl
theorem cellsU64 : Try.prog.cellsOf 26 = 1 := by kernel_rfl
theorem cellsInt : Try.prog.cellsOf 3 = 1 := by kernel_rfl
theorem cellsBoo : Try.prog.cellsOf 4 = 1 := by kernel_rfl
theorem cellsTx : Try.prog.cellsOf 30 = 2 := by kernel_rfl
theorem cellsPut : Try.prog.cellsOf 54 = 3 := by kernel_rfl
theorem cellsOrder : Try.prog.cellsOf 34 = 7 := by kernel_rfl
theorem cellsPus : Try.prog.cellsOf 31 = 1 := by kernel_rfl
theorem cellsU64s : Try.prog.cellsOf 32 = 1 := by kernel_rfl
theorem cellsOrders : Try.prog.cellsOf 43 = 1 := by kernel_rfl
theorem bytesPut : Try.prog.bytesOf 54 = 40 := by kernel_rfl
theorem bytesOrder : Try.prog.bytesOf 34 = 96 := by kernel_rfl
/-- All that a reading holds is small. -/
def Sm {H : Type} (T : TypeId) (d : DataW H) : Prop := ∀ q ∈ d.weights Try.prog T, q ≤ 140737488351232
section
variable {H : Type} {enc : TypeId × Value → H} {W : World} {fuel : Nat} {cs : List Value} {y : DataW H × List MemPlace}
theorem open_st {t : TypeId} {fs : Array Field} (ht : Try.prog.underlying t = some (.struct fs)) (h : DataW.trod enc Try.prog W 0 (fun _ => true) true fuel t cs = some y) (hlt : ∀ q ∈ y.2, q.block < W.heap.size) :
    ∃ n, ∀ (i : Nat) (f : Field), fs[i]? = some f → ∃ z, DataW.trod enc Try.prog W 0 (fun _ => true) true n f.type ((cs.drop f.offset).take (Try.prog.cellsOf f.type)) = some z ∧ (∀ q ∈ z.2, q.block < W.heap.size) ∧ (Sm t y.1 → Sm f.type z.1) := by
  obtain ⟨xs, n, _, rfl, _, hlen, hf⟩ := DataW.trod_struct ht h
  refine ⟨n, fun i f hi => ?_⟩
  have hl := (Array.getElem?_eq_some_iff.1 hi).1
  have hz : xs[i]? = some (xs[i]'(by omega)) := List.getElem?_eq_getElem _
  refine ⟨_, (hf i f hi).trans hz, fun q hq => hlt q (List.mem_flatMap.2 ⟨_, List.getElem_mem _, hq⟩), fun hs q hq => hs q ?_⟩
  simp only [DataW.weights, ht]
  exact DataW.weights_mem_each (j := i) (by rw [List.getElem?_map, Array.getElem?_toList, hi]; rfl) (by rw [List.getElem?_map, hz]; rfl) q hq
end
theorem sm_str {H : Type} {s : ByteArray} (h : Sm (H := H) 9 (.lit (.string s.data.toList))) : s.size ≤ 140737488351232 := by
  refine h _ ?_
  rw [DataW.weights]
  exact List.mem_singleton.2 (Array.length_toList (xs := s.data)).symm
set_option maxRecDepth 100000 in
theorem txRead {H : Type} {enc : TypeId × Value → H} {W : World} {f : Nat} {cs : List Value} {y : DataW H × List MemPlace} (hsz : cs.length = 2)
    (ht : DataW.trod enc Try.prog W 0 (fun _ => true) true f 30 cs = some y) : ∃ x : Tx, cs = txC x ∧ okX x := by
  obtain ⟨z0, z1, n', hz, _, u0, u1⟩ := trod_struct2 Try.underlying30 ht
  match cs, hsz with
  | [c0, c1], _ =>
    obtain ⟨z, e0, _, w0⟩ := DataW.trod_int Try.underlying26 u0
    obtain ⟨z', e1, _, w1⟩ := DataW.trod_int Try.underlying26 u1
    simp only [cellsU64] at e0 e1
    simp at e0 e1
    subst e0 e1
    obtain ⟨a, rfl, ha⟩ := u64_nat w0
    obtain ⟨i, rfl, hi⟩ := u64_nat w1
    exact ⟨⟨a, i⟩, rfl, ha, hi⟩
/-- A put's reading. -/
def PuS {H : Type} (cs : List Value) (x : Pu) (d : DataW H) : Prop := cs = puC x ∧ (Sm 54 d → x.key.size ≤ 140737488351232 ∧ x.val.size ≤ 140737488351232)
set_option maxRecDepth 100000 in
set_option maxHeartbeats 1000000 in
theorem puRead {H : Type} {enc : TypeId × Value → H} {W : World} {f : Nat} {cs : List Value} {y : DataW H × List MemPlace} (hsz : cs.length = 3)
    (ht : DataW.trod enc Try.prog W 0 (fun _ => true) true f 54 cs = some y) (hlt : ∀ q ∈ y.2, q.block < W.heap.size) : ∃ x : Pu, PuS cs x y.1 := by
  obtain ⟨n, h⟩ := open_st Try.underlying54 ht hlt
  obtain ⟨z0, u0, _, s0⟩ := h 0 _ rfl
  obtain ⟨z1, u1, _, s1⟩ := h 1 _ rfl
  obtain ⟨z2, u2, _, _⟩ := h 2 _ rfl
  match cs, hsz with
  | [c0, c1, c2], _ =>
    simp only [List.getElem_toArray, List.getElem_cons_zero, List.getElem_cons_succ, cellsStr, cellsBoo] at u0 u1 u2 s0 s1
    obtain ⟨k, e0, h0, _⟩ := DataW.trod_string Try.underlying9 u0
    obtain ⟨v, e1, h1, _⟩ := DataW.trod_string Try.underlying9 u1
    obtain ⟨g, e2, h2⟩ := DataW.trod_bool Try.underlying4 u2
    simp at e0 e1 e2
    subst e0 e1 e2
    rw [h0] at s0
    rw [h1] at s1
    exact ⟨⟨k, v, g⟩, rfl, fun hs => ⟨sm_str (s0 hs), sm_str (s1 hs)⟩⟩
theorem RowOf.allS {H α : Type} {W : World} {k : Nat} {P : List Value → α → DataW H → Prop} {E : TypeId} {a : Option Addr} {n c : Nat} {L : List α} {S : Nat → Prop} {Q : α → Prop}
    (h : RowOf W k P E a n c L S) (hP : ∀ cs x d, P cs x d → (∀ q ∈ d.weights Try.prog E, S q) → Q x) : ∀ x ∈ L, Q x := fun x hx => by
  obtain ⟨j, hj⟩ := List.mem_iff_getElem?.1 hx
  obtain ⟨b, off, cs, d, e, hlt, _, hc, hp, hq⟩ := h.mem j x hj
  exact hP _ _ _ hp hq
set_option maxRecDepth 100000 in
theorem puRow_of {H : Type} {enc : TypeId × Value → H} {W : World} {fuel : Nat} {c : Value} {y : DataW H × List MemPlace}
    (hf : DataW.trod enc Try.prog W 0 (fun _ => true) true fuel 31 [c] = some y) (hlt : ∀ x ∈ y.2, x.block < W.heap.size) :
    ∃ a n cap P, c = .slice a n cap ∧ P.length = n ∧ n ≤ cap ∧ cap ≤ maxLen ∧ Pus W a P ∧ (Sm 31 y.1 → n * 40 ≤ 140737488351232 ∧ smlP P) := by
  obtain ⟨a, n, cap, L, e, h⟩ := rowOf_of (⟨⟨#[]⟩, ⟨#[]⟩, false⟩ : Pu) PuS Try.underlying31 cellsPut (by decide) (fun f cs y hsz ht hl => puRead hsz ht hl) hf hlt
  exact ⟨a, n, cap, L, e, h.hlen, h.hcap, h.hmax, h.rw (fun cs x d hp => hp.1), fun hS => ⟨h.small bytesPut hS, h.allS (fun cs x d hp hq => hp.2 (fun q hh => hS q (hq q hh)))⟩⟩
/-- An order's reading. -/
def OrS {H : Type} (W : World) (cs : List Value) (x : OrM) (d : DataW H) : Prop := cs = ordC x ∧ Pus W x.a x.x.puts ∧ (x.x.puts.length ≤ x.c ∧ x.c ≤ maxLen) ∧ (Sm 34 d → SzO x.x)
set_option maxRecDepth 100000 in
set_option maxHeartbeats 4000000 in
theorem orRead {H : Type} {enc : TypeId × Value → H} {W : World} {f : Nat} {cs : List Value} {y : DataW H × List MemPlace} (hsz : cs.length = 7)
    (ht : DataW.trod enc Try.prog W 0 (fun _ => true) true f 34 cs = some y) (hlt : ∀ q ∈ y.2, q.block < W.heap.size) : ∃ x : OrM, OrS W cs x y.1 := by
  obtain ⟨n, h⟩ := open_st Try.underlying34 ht hlt
  obtain ⟨z0, u0, _, _⟩ := h 0 _ rfl
  obtain ⟨z1, u1, _, _⟩ := h 1 _ rfl
  obtain ⟨z2, u2, _, s2⟩ := h 2 _ rfl
  obtain ⟨z3, u3, l3, s3⟩ := h 3 _ rfl
  obtain ⟨z4, u4, _, _⟩ := h 4 _ rfl
  obtain ⟨z5, u5, _, _⟩ := h 5 _ rfl
  match cs, hsz with
  | [c0, c1, c2, c3, c4, c5, c6], _ =>
    simp only [List.getElem_toArray, List.getElem_cons_zero, List.getElem_cons_succ, cellsInt, cellsTx, cellsStr, cellsPus, cellsBoo, cellsU64s] at u0 u1 u2 u3 u4 u5 s2 s3
    obtain ⟨kd, e0, _, w0⟩ := DataW.trod_int Try.underlying3 u0
    have u1' : DataW.trod enc Try.prog W 0 (fun _ => true) true n 30 [c1, c2] = some z1 := by simpa using u1
    obtain ⟨t, ht1, hto⟩ := txRead rfl u1'
    obtain ⟨k, e2, h2, _⟩ := DataW.trod_string Try.underlying9 u2
    have u3' : DataW.trod enc Try.prog W 0 (fun _ => true) true n 31 [c4] = some z3 := by simpa using u3
    obtain ⟨a, m, cap, P, e3, hm, hc1, hc2, hP, hsm⟩ := puRow_of u3' l3
    obtain ⟨g, e4, h4⟩ := DataW.trod_bool Try.underlying4 u4
    have u5' : DataW.trod enc Try.prog W 0 (fun _ => true) true n 32 [c6] = some z5 := by simpa using u5
    have e5 : ∃ qa qn qc, c6 = .slice qa qn qc := by
      rcases open_slice Try.underlying32 u5' with ⟨hcs, _⟩ | ⟨a', len, cap', m', n', D, Pl, hcs, _⟩
      · simp at hcs; exact ⟨_, _, _, hcs⟩
      · simp at hcs; exact ⟨_, _, _, hcs⟩
    obtain ⟨qa, qn, qc, rfl⟩ := e5
    simp at e0 e2 e4
    simp only [txC, List.cons.injEq, and_true] at ht1
    obtain ⟨rfl, rfl⟩ := ht1
    subst e0 e2 e3 e4 hm
    rw [h2] at s2
    have hb := bounds_i64 w0
    exact ⟨⟨⟨kd, t, k, P, g⟩, a, cap, qa, qn, qc⟩, rfl, hP, ⟨hc1, hc2⟩, fun hs => ⟨⟨sm_str (s2 hs), hto⟩, (hsm (s3 hs)).1, (hsm (s3 hs)).2, by simp only; omega⟩⟩
set_option maxRecDepth 100000 in
theorem orRow_of {H : Type} {enc : TypeId × Value → H} {W : World} {fuel : Nat} {c : Value} {y : DataW H × List MemPlace}
    (hf : DataW.trod enc Try.prog W 0 (fun _ => true) true fuel 43 [c] = some y) (hlt : ∀ x ∈ y.2, x.block < W.heap.size) (hS : Sm 43 y.1) :
    ∃ a n cap L, c = .slice a n cap ∧ OrIn W a n cap L := by
  obtain ⟨a, n, cap, L, e, h⟩ := rowOf_of (⟨⟨0, ⟨0, 0⟩, ⟨#[]⟩, [], false⟩, none, 0, none, 0, 0⟩ : OrM) (OrS W) Try.underlying43 cellsOrder (by decide) (fun f cs y hsz ht hl => orRead hsz ht hl) hf hlt
  refine ⟨a, n, cap, L, e, h.hlen, ?_, h.rw (fun cs x d hp => hp.1), h.allS (fun cs x d hp hq => ⟨hp.2.1, hp.2.2.1.1, hp.2.2.1.2, hp.2.2.2 (fun q hh => hS q (hq q hh))⟩)⟩
  have := h.small bytesOrder hS
  omega
set_option maxRecDepth 100000 in
theorem orsArg_of {H : Type} {enc : TypeId × Value → H} {W : World} {r : Reach} {b0 : Nat} {v : Value} {d : DataW H} {p : List MemPlace} {ts : List TypeId} {ds : List (DataW H)} {j : Nat}
    (hv : Value.okWide Try.prog W r b0 43 v) (h : DataW.Trod enc Try.prog W 0 (fun _ => true) true 43 v d p) (hlt : ∀ x ∈ p, x.block < W.heap.size)
    (hZ : (DataW.weightsEach Try.prog ts ds).all (· ≤ reachBytes) = true) (hj : ts[j]? = some 43) (hd : ds[j]? = some d) : ∃ a n c L, v = .slice a n c ∧ OrIn W a n c L := by
  obtain ⟨a0, l0, c0, rfl⟩ := okWide_slice Try.underlying43 hv
  obtain ⟨fuel, hf⟩ := h
  exact orRow_of (c := .slice a0 l0 c0) (by simpa [Value.cells] using hf) hlt (sized_of hZ hj hd)
set_option maxRecDepth 100000 in
theorem txArg_of {H : Type} {enc : TypeId × Value → H} {W : World} {r : Reach} {b0 : Nat} {v : Value} {d : DataW H} {p : List MemPlace}
    (hv : Value.okWide Try.prog W r b0 30 v) (h : DataW.Trod enc Try.prog W 0 (fun _ => true) true 30 v d p) : ∃ x : Tx, v = txV x ∧ okX x := by
  obtain ⟨cs, rfl, hsz⟩ := okWide_struct Try.underlying30 hv
  rw [cellsTx] at hsz
  obtain ⟨fuel, hf⟩ := h
  obtain ⟨x, h1, h2⟩ := txRead (by simpa [Value.cells] using hsz) hf
  refine ⟨x, ?_, h2⟩
  simp only [Value.cells] at h1
  obtain ⟨l⟩ := cs
  simp only at h1
  rw [h1]; rfl
theorem cellsReads : Try.prog.cellsOf 61 = 5 := by kernel_rfl
set_option maxRecDepth 100000 in
set_option maxHeartbeats 4000000 in
theorem readsArg_of {H : Type} {enc : TypeId × Value → H} {W : World} {r : Reach} {b0 : Nat} {v : Value} {d : DataW H} {p : List MemPlace} {ts : List TypeId} {ds : List (DataW H)} {j : Nat}
    (hv : Value.okWide Try.prog W r b0 61 v) (h : DataW.Trod enc Try.prog W 0 (fun _ => true) true 61 v d p) (hlt : ∀ x ∈ p, x.block < W.heap.size)
    (hZ : (DataW.weightsEach Try.prog ts ds).all (· ≤ reachBytes) = true) (hj : ts[j]? = some 61) (hd : ds[j]? = some d) :
    ∃ a n c L, ∃ t : Tx, ∃ key : ByteArray, ∃ a2 m e M, v = .agg #[.slice a n c, .int .u64 (t.age : Nat), .int .u64 (t.id : Nat), .string key, .slice a2 m e] ∧ OrIn W a n c L ∧ okX t ∧ key.size ≤ 140737488351232 ∧ OrIn W a2 m e M := by
  obtain ⟨cs, rfl, hsz⟩ := okWide_struct Try.underlying61 hv
  rw [cellsReads] at hsz
  obtain ⟨fuel, hf⟩ := h
  obtain ⟨n', h⟩ := open_st Try.underlying61 hf hlt
  obtain ⟨z0, u0, l0, s0⟩ := h 0 _ rfl
  obtain ⟨z1, u1, _, _⟩ := h 1 _ rfl
  obtain ⟨z2, u2, _, s2⟩ := h 2 _ rfl
  obtain ⟨z3, u3, l3, s3⟩ := h 3 _ rfl
  have hS : Sm 61 d := sized_of hZ hj hd
  obtain ⟨l⟩ := cs
  match l, hsz with
  | [c0, c1, c2, c3, c4], _ =>
    simp only [List.getElem_toArray, List.getElem_cons_zero, List.getElem_cons_succ, cellsOrders, cellsTx, cellsStr, Value.cells] at u0 u1 u2 u3 s0 s2 s3
    obtain ⟨a, n, c, L, e0, I⟩ := orRow_of (c := c0) (by simpa using u0) l0 (s0 hS)
    obtain ⟨t, ht1, hto⟩ := txRead (cs := [c1, c2]) rfl (by simpa using u1)
    obtain ⟨k, e2, h2, _⟩ := DataW.trod_string Try.underlying9 u2
    obtain ⟨a2, m, e, M, e3, J⟩ := orRow_of (c := c4) (by simpa using u3) l3 (s3 hS)
    simp at e2
    simp only [txC, List.cons.injEq, and_true] at ht1
    obtain ⟨rfl, rfl⟩ := ht1
    subst e0 e2 e3
    rw [h2] at s2
    exact ⟨a, n, c, L, t, k, a2, m, e, M, rfl, I, hto, sm_str (s2 hS), J⟩
end Go.Proofs.Ythgnecggdlamfaa
