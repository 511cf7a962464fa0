/- The arguments of layer 12's laws: what their reading gives. -/
import Derived.Test.YtfidgnhinllhlaaVr
namespace Go.Proofs.Ytfidgnhinllhlaa
open Go.ChangeShapes Go.WideShapes Go.ChangeAt Go.RowKit Go.Deep Go.Joins

theorem trodS5 {H : Type} {enc : TypeId × Value → H} {P : Program} {w : World} {base : Nat} {spare : Nat → Bool} {held : Bool} {t : TypeId} {f0 f1 f2 f3 f4 : Field} {fuel : Nat} {cs : List Value} {x : DataW H × List MemPlace} (ht : P.underlying t = some (.struct #[f0, f1, f2, f3, f4])) (h : DataW.trod enc P w base spare held fuel t cs = some x) :
    ∃ y0 y1 y2 y3 y4 n, x = (.agg [y0.1, y1.1, y2.1, y3.1, y4.1], y0.2 ++ (y1.2 ++ (y2.2 ++ (y3.2 ++ y4.2)))) ∧ DataW.trod enc P w base spare held n f0.type ((cs.drop f0.offset).take (P.cellsOf f0.type)) = some y0 ∧ DataW.trod enc P w base spare held n f1.type ((cs.drop f1.offset).take (P.cellsOf f1.type)) = some y1 ∧
      DataW.trod enc P w base spare held n f2.type ((cs.drop f2.offset).take (P.cellsOf f2.type)) = some y2 ∧ DataW.trod enc P w base spare held n f3.type ((cs.drop f3.offset).take (P.cellsOf f3.type)) = some y3 ∧ DataW.trod enc P w base spare held n f4.type ((cs.drop f4.offset).take (P.cellsOf f4.type)) = some y4 := by
  obtain ⟨xs, n, _, rfl, hl, hlen, hf⟩ := DataW.trod_struct ht h
  match xs, hlen with
  | [y0, y1, y2, y3, y4], _ => exact ⟨y0, y1, y2, y3, y4, n, by simp, by simpa using hf 0 f0 rfl, by simpa using hf 1 f1 rfl, by simpa using hf 2 f2 rfl, by simpa using hf 3 f3 rfl, by simpa using hf 4 f4 rfl⟩
theorem cellsWounds : Try.prog.cellsOf 48 = 9 := by kernel_rfl
set_option maxRecDepth 100000 in
theorem hosArg_of {H : Type} {enc : TypeId × Value → H} {W : World} {r : Reach} {b0 : Nat} {v : Value} {d : DataW H} {p : List MemPlace} {ts : List TypeId} {ds : List (DataW H)} {j : Nat}
    (hv : Value.okWide Try.prog W r b0 22 v) (h : DataW.Trod enc Try.prog W 0 (fun _ => true) true 22 v d p) (hlt : ∀ x ∈ p, x.block < W.heap.size)
    (hZ : (DataW.weightsEach Try.prog ts ds).all (· ≤ reachBytes) = true) (hj : ts[j]? = some 22) (hd : ds[j]? = some d) : ∃ a n c L, v = .slice a n c ∧ HoIn W a n c L := by
  obtain ⟨a0, l0, c0, rfl⟩ := okWide_slice Try.underlying22 hv
  obtain ⟨fuel, hf⟩ := h
  exact hoRow_of (c := .slice a0 l0 c0) (by simpa [Value.cells] using hf) hlt (sized_of hZ hj hd)
set_option maxRecDepth 100000 in
theorem txsArg_of {H : Type} {enc : TypeId × Value → H} {W : World} {r : Reach} {b0 : Nat} {v : Value} {d : DataW H} {p : List MemPlace} {ts : List TypeId} {ds : List (DataW H)} {j : Nat}
    (hv : Value.okWide Try.prog W r b0 28 v) (h : DataW.Trod enc Try.prog W 0 (fun _ => true) true 28 v d p) (hlt : ∀ x ∈ p, x.block < W.heap.size)
    (hZ : (DataW.weightsEach Try.prog ts ds).all (· ≤ reachBytes) = true) (hj : ts[j]? = some 28) (hd : ds[j]? = some d) : ∃ a n c L, v = .slice a n c ∧ TxIn W a n c L := by
  obtain ⟨a0, l0, c0, rfl⟩ := okWide_slice Try.underlying28 hv
  obtain ⟨fuel, hf⟩ := h
  exact txRow_of (c := .slice a0 l0 c0) (by simpa [Value.cells] using hf) hlt (sized_of hZ hj hd)
set_option maxRecDepth 100000 in
theorem assArg_of {H : Type} {enc : TypeId × Value → H} {W : World} {r : Reach} {b0 : Nat} {v : Value} {d : DataW H} {p : List MemPlace} {ts : List TypeId} {ds : List (DataW H)} {j : Nat}
    (hv : Value.okWide Try.prog W r b0 43 v) (h : DataW.Trod enc Try.prog W 0 (fun _ => true) true 43 v d p) (hlt : ∀ x ∈ p, x.block < W.heap.size)
    (hZ : (DataW.weightsEach Try.prog ts ds).all (· ≤ reachBytes) = true) (hj : ts[j]? = some 43) (hd : ds[j]? = some d) : ∃ a n c L, v = .slice a n c ∧ AsIn W a n c L := by
  obtain ⟨a0, l0, c0, rfl⟩ := okWide_slice Try.underlying43 hv
  obtain ⟨fuel, hf⟩ := h
  exact asRow_of (c := .slice a0 l0 c0) (by simpa [Value.cells] using hf) hlt (sized_of hZ hj hd)
set_option maxRecDepth 100000 in
theorem txArg_of {H : Type} {enc : TypeId × Value → H} {W : World} {r : Reach} {b0 : Nat} {v : Value} {d : DataW H} {p : List MemPlace}
    (hv : Value.okWide Try.prog W r b0 25 v) (h : DataW.Trod enc Try.prog W 0 (fun _ => true) true 25 v d p) : ∃ x : Tx, v = txV x ∧ okX x := by
  obtain ⟨cs, rfl, hsz⟩ := okWide_struct Try.underlying25 hv
  rw [cellsTx] at hsz
  obtain ⟨fuel, hf⟩ := h
  obtain ⟨x, h1, h2⟩ := txRead (by simpa [Value.cells] using hsz) hf
  refine ⟨x, ?_, h2⟩
  simp only [Value.cells] at h1
  obtain ⟨l⟩ := cs
  simp only at h1
  rw [h1]; rfl
set_option maxRecDepth 100000 in
theorem asArg_of {H : Type} {enc : TypeId × Value → H} {W : World} {r : Reach} {b0 : Nat} {v : Value} {d : DataW H} {p : List MemPlace} {ts : List TypeId} {ds : List (DataW H)} {j : Nat}
    (hv : Value.okWide Try.prog W r b0 27 v) (h : DataW.Trod enc Try.prog W 0 (fun _ => true) true 27 v d p)
    (hZ : (DataW.weightsEach Try.prog ts ds).all (· ≤ reachBytes) = true) (hj : ts[j]? = some 27) (hd : ds[j]? = some d) : ∃ x : As, v = asV x ∧ okA x.key x.t := by
  obtain ⟨cs, rfl, hsz⟩ := okWide_struct Try.underlying27 hv
  rw [cellsAsks] at hsz
  obtain ⟨fuel, hf⟩ := h
  obtain ⟨x, h1, h2, h3⟩ := asRead (by simpa [Value.cells] using hsz) hf
  refine ⟨x, ?_, sized_of hZ hj hd _ h2, h3⟩
  simp only [Value.cells] at h1
  obtain ⟨l⟩ := cs
  simp only at h1
  rw [h1]; rfl
set_option maxRecDepth 100000 in
set_option maxHeartbeats 4000000 in
theorem woundsArg_of {H : Type} {enc : TypeId × Value → H} {W : World} {r : Reach} {b0 : Nat} {v : Value} {d : DataW H} {p : List MemPlace} {ts : List TypeId} {ds : List (DataW H)} {j : Nat}
    (hv : Value.okWide Try.prog W r b0 48 v) (h : DataW.Trod enc Try.prog W 0 (fun _ => true) true 48 v d p) (hlt : ∀ x ∈ p, x.block < W.heap.size)
    (hZ : (DataW.weightsEach Try.prog ts ds).all (· ≤ reachBytes) = true) (hj : ts[j]? = some 48) (hd : ds[j]? = some d) :
    ∃ a n c L, ∃ x : As, ∃ a2 m e F, ∃ t : Tx, ∃ key : ByteArray, v = .agg #[.slice a n c, .int .u64 (x.t.age : Nat), .int .u64 (x.t.id : Nat), .string x.key, .bool x.wr, .slice a2 m e, .int .u64 (t.age : Nat), .int .u64 (t.id : Nat), .string key] ∧ HoIn W a n c L ∧ okA x.key x.t ∧ TxIn W a2 m e F ∧ key.size ≤ 140737488351232 := by
  obtain ⟨cs, rfl, hsz⟩ := okWide_struct Try.underlying48 hv
  rw [cellsWounds] at hsz
  obtain ⟨fuel, hf⟩ := h
  obtain ⟨z0, z1, z2, z3, z4, n', hz, u0, u1, u2, u3, u4⟩ := trodS5 Try.underlying48 hf
  obtain ⟨l⟩ := cs
  match l, hsz with
  | [x0, x1, x2, x3, x4, x5, x6, x7, x8], _ =>
    obtain ⟨s, e4, h4, _⟩ := DataW.trod_string Try.underlying9 u4
    simp only [cellsStr, Value.cells] at e4
    simp at e4
    subst e4
    have u0' : DataW.trod enc Try.prog W 0 (fun _ => true) true n' 22 [x0] = some z0 := by
      simp only [cellsHos, Value.cells] at u0; simpa using u0
    have u1' : DataW.trod enc Try.prog W 0 (fun _ => true) true n' 27 [x1, x2, x3, x4] = some z1 := by
      simp only [cellsAsks, Value.cells] at u1; simpa using u1
    have u2' : DataW.trod enc Try.prog W 0 (fun _ => true) true n' 28 [x5] = some z2 := by
      simp only [cellsTxs, Value.cells] at u2; simpa using u2
    have u3' : DataW.trod enc Try.prog W 0 (fun _ => true) true n' 25 [x6, x7] = some z3 := by
      simp only [cellsTx, Value.cells] at u3; simpa using u3
    simp only [Prod.mk.injEq] at hz
    have hall : ∀ q, q ∈ z0.1.weights Try.prog 22 ∨ q ∈ z1.1.weights Try.prog 27 ∨ q ∈ z2.1.weights Try.prog 28 ∨ q = s.size → q ≤ 140737488351232 := fun q hq => by
      refine sized_of hZ hj hd q ?_
      rw [hz.1, h4]
      simp only [DataW.weights, DataW.weightsEach, Try.underlying48, List.map_cons, List.map_nil, List.mem_append, List.append_nil]
      rcases hq with hq | hq | hq | hq
      · exact .inl hq
      · exact .inr (.inl hq)
      · exact .inr (.inr (.inl hq))
      · exact .inr (.inr (.inr (.inr (by rw [hq]; exact List.mem_singleton.2 (Array.length_toList (xs := s.data)).symm))))
    obtain ⟨a, n, c, L, rfl, hr⟩ := hoRow_of u0' (fun x hx => hlt x (by rw [hz.2]; simp [hx])) (fun q hq => hall q (.inl hq))
    obtain ⟨x, hx1, hx2, hx3⟩ := asRead rfl u1'
    obtain ⟨a2, m, e, F, rfl, hp⟩ := txRow_of u2' (fun x hx => hlt x (by rw [hz.2]; simp [hx])) (fun q hq => hall q (.inr (.inr (.inl hq))))
    obtain ⟨t, ht, _⟩ := txRead rfl u3'
    simp only [asC, List.cons.injEq, and_true] at hx1
    simp only [txC, List.cons.injEq, and_true] at ht
    obtain ⟨rfl, rfl, rfl, rfl⟩ := hx1
    obtain ⟨rfl, rfl⟩ := ht
    exact ⟨a, n, c, L, x, a2, m, e, F, t, s, rfl, hr, ⟨hall _ (.inr (.inl hx2)), hx3⟩, hp, hall _ (.inr (.inr (.inr rfl)))⟩
end Go.Proofs.Ytfidgnhinllhlaa
