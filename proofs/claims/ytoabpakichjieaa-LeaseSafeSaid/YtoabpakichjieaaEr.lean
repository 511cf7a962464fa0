/- The arguments of the laws that take a row of several things. -/
import Derived.Test.YtoabpakichjieaaIr
import Derived.Test.YtoabpakichjieaaEm
namespace Go.Proofs.Ytoabpakichjieaa
open Go.ChangeShapes Go.WideShapes Go.ChangeAt Go.RowKit Go.Deep Go.Joins

theorem trodS5 {H : Type} {enc : TypeId × Value → H} {P : Program} {w : World} {base : Nat} {spare : Nat → Bool} {held : Bool} {t : TypeId} {f0 f1 f2 f3 f4 : Field} {fuel : Nat} {cs : List Value} {x : DataW H × List MemPlace} (ht : P.underlying t = some (.struct #[f0, f1, f2, f3, f4])) (h : DataW.trod enc P w base spare held fuel t cs = some x) :
    ∃ y0 y1 y2 y3 y4 n, x = (.agg [y0.1, y1.1, y2.1, y3.1, y4.1], y0.2 ++ (y1.2 ++ (y2.2 ++ (y3.2 ++ y4.2)))) ∧ DataW.trod enc P w base spare held n f0.type ((cs.drop f0.offset).take (P.cellsOf f0.type)) = some y0 ∧ DataW.trod enc P w base spare held n f1.type ((cs.drop f1.offset).take (P.cellsOf f1.type)) = some y1 ∧
      DataW.trod enc P w base spare held n f2.type ((cs.drop f2.offset).take (P.cellsOf f2.type)) = some y2 ∧ DataW.trod enc P w base spare held n f3.type ((cs.drop f3.offset).take (P.cellsOf f3.type)) = some y3 ∧ DataW.trod enc P w base spare held n f4.type ((cs.drop f4.offset).take (P.cellsOf f4.type)) = some y4 := by
  obtain ⟨xs, n, _, rfl, hl, hlen, hf⟩ := DataW.trod_struct ht h
  match xs, hlen with
  | [y0, y1, y2, y3, y4], _ => exact ⟨y0, y1, y2, y3, y4, n, by simp, by simpa using hf 0 f0 rfl, by simpa using hf 1 f1 rfl, by simpa using hf 2 f2 rfl, by simpa using hf 3 f3 rfl, by simpa using hf 4 f4 rfl⟩
theorem trodS6 {H : Type} {enc : TypeId × Value → H} {P : Program} {w : World} {base : Nat} {spare : Nat → Bool} {held : Bool} {t : TypeId} {f0 f1 f2 f3 f4 f5 : Field} {fuel : Nat} {cs : List Value} {x : DataW H × List MemPlace} (ht : P.underlying t = some (.struct #[f0, f1, f2, f3, f4, f5])) (h : DataW.trod enc P w base spare held fuel t cs = some x) :
    ∃ y0 y1 y2 y3 y4 y5 n, x = (.agg [y0.1, y1.1, y2.1, y3.1, y4.1, y5.1], y0.2 ++ (y1.2 ++ (y2.2 ++ (y3.2 ++ (y4.2 ++ y5.2))))) ∧ DataW.trod enc P w base spare held n f0.type ((cs.drop f0.offset).take (P.cellsOf f0.type)) = some y0 ∧ DataW.trod enc P w base spare held n f1.type ((cs.drop f1.offset).take (P.cellsOf f1.type)) = some y1 ∧
      DataW.trod enc P w base spare held n f2.type ((cs.drop f2.offset).take (P.cellsOf f2.type)) = some y2 ∧ DataW.trod enc P w base spare held n f3.type ((cs.drop f3.offset).take (P.cellsOf f3.type)) = some y3 ∧ DataW.trod enc P w base spare held n f4.type ((cs.drop f4.offset).take (P.cellsOf f4.type)) = some y4 ∧ DataW.trod enc P w base spare held n f5.type ((cs.drop f5.offset).take (P.cellsOf f5.type)) = some y5 := by
  obtain ⟨xs, n, _, rfl, hl, hlen, hf⟩ := DataW.trod_struct ht h
  match xs, hlen with
  | [y0, y1, y2, y3, y4, y5], _ => exact ⟨y0, y1, y2, y3, y4, y5, n, by simp, by simpa using hf 0 f0 rfl, by simpa using hf 1 f1 rfl, by simpa using hf 2 f2 rfl, by simpa using hf 3 f3 rfl, by simpa using hf 4 f4 rfl, by simpa using hf 5 f5 rfl⟩
theorem cellsSafe : Try.prog.cellsOf 37 = 5 := by kernel_rfl
theorem cellsUntil : Try.prog.cellsOf 32 = 7 := by kernel_rfl
theorem cellsMost : Try.prog.cellsOf 40 = 6 := by kernel_rfl
set_option maxRecDepth 100000 in
set_option maxHeartbeats 4000000 in
theorem safeArg_of {H : Type} {enc : TypeId × Value → H} {W : World} {r : Reach} {b0 : Nat} {v : Value} {d : DataW H} {p : List MemPlace}
    (hv : Value.okWide Try.prog W r b0 37 v) (h : DataW.Trod enc Try.prog W 0 (fun _ => true) true 37 v d p) : ∃ a b c e f : Nat, v = .agg #[.int .u64 a, .int .u64 b, .int .u64 c, .int .u64 e, .int .u64 f] ∧ (a < 18446744073709551616 ∧ b < 18446744073709551616 ∧ c < 18446744073709551616 ∧ e < 18446744073709551616 ∧ f < 18446744073709551616) := by
  obtain ⟨cs, rfl, hsz⟩ := okWide_struct Try.underlying37 hv
  rw [cellsSafe] at hsz
  obtain ⟨fuel, hf⟩ := h
  obtain ⟨z0, z1, z2, z3, z4, n', _, u0, u1, u2, u3, u4⟩ := trodS5 Try.underlying37 hf
  obtain ⟨l⟩ := cs
  match l, hsz with
  | [x0, x1, x2, x3, x4], _ =>
    obtain ⟨y0, e0, _, w0⟩ := DataW.trod_int Try.underlying22 u0
    obtain ⟨y1, e1, _, w1⟩ := DataW.trod_int Try.underlying22 u1
    obtain ⟨y2, e2, _, w2⟩ := DataW.trod_int Try.underlying22 u2
    obtain ⟨y3, e3, _, w3⟩ := DataW.trod_int Try.underlying22 u3
    obtain ⟨y4, e4, _, w4⟩ := DataW.trod_int Try.underlying22 u4
    simp only [cellsU64, Value.cells] at e0 e1 e2 e3 e4
    simp at e0 e1 e2 e3 e4
    subst e0 e1 e2 e3 e4
    obtain ⟨a0, rfl, b0⟩ := u64_nat w0
    obtain ⟨a1, rfl, b1⟩ := u64_nat w1
    obtain ⟨a2, rfl, b2⟩ := u64_nat w2
    obtain ⟨a3, rfl, b3⟩ := u64_nat w3
    obtain ⟨a4, rfl, b4⟩ := u64_nat w4
    exact ⟨a0, a1, a2, a3, a4, rfl, b0, b1, b2, b3, b4⟩
/-- A group and acks, as they come in. -/
structure CfIn (W : World) (n c : Nat) (a a2 : Option Addr) (V : List Nat) (n2 c2 : Nat) (L : List Nat) (m d : Nat) (a3 : Option Addr) (M : List Mk) : Prop where
  cf : CfM W n c a a2 V m d a3 M
  hlen2 : L.length = n2
  room2 : n2 ≤ 140737488351232
  mem2 : Us W a2 L
  nums : ∀ x ∈ V, x < 18446744073709551616
  nums3 : ∀ x ∈ M, x.id < 18446744073709551616 ∧ x.n < 18446744073709551616
set_option maxRecDepth 100000 in
set_option maxHeartbeats 4000000 in
theorem untilArg_of {H : Type} {enc : TypeId × Value → H} {W : World} {r : Reach} {b0 : Nat} {v : Value} {d : DataW H} {p : List MemPlace} {ts : List TypeId} {ds : List (DataW H)} {j : Nat}
    (hv : Value.okWide Try.prog W r b0 32 v) (h : DataW.Trod enc Try.prog W 0 (fun _ => true) true 32 v d p) (hlt : ∀ x ∈ p, x.block < W.heap.size)
    (hZ : (DataW.weightsEach Try.prog ts ds).all (· ≤ reachBytes) = true) (hj : ts[j]? = some 32) (hd : ds[j]? = some d) : ∃ a n c V a2 n2 c2 L a3 m e M id now s dr, v = .agg #[.slice a n c, .slice a2 n2 c2, .int .u64 (id : Nat), .int .u64 (now : Nat), .slice a3 m e, .int .u64 (s : Nat), .int .u64 (dr : Nat)] ∧ CfIn W n c a a2 V n2 c2 L m e a3 M ∧ id < 18446744073709551616 ∧ now < 18446744073709551616 ∧ s < 18446744073709551616 ∧ dr < 18446744073709551616 := by
  obtain ⟨cs, rfl, hsz⟩ := okWide_struct Try.underlying32 hv
  rw [cellsUntil] at hsz
  obtain ⟨fuel, hf⟩ := h
  obtain ⟨z0, z1, z2, z3, z4, z5, n', hz, u0, u1, u2, u3, u4, u5⟩ := trodS6 Try.underlying32 hf
  obtain ⟨l⟩ := cs
  match l, hsz with
  | [x0, x1, x2, x3, x4, x5, x6], _ =>
    obtain ⟨y1, e1, _, w1⟩ := DataW.trod_int Try.underlying22 u1
    obtain ⟨y2, e2, _, w2⟩ := DataW.trod_int Try.underlying22 u2
    obtain ⟨y4, e4, _, w4⟩ := DataW.trod_int Try.underlying22 u4
    obtain ⟨y5, e5, _, w5⟩ := DataW.trod_int Try.underlying22 u5
    simp only [cellsU64, Value.cells] at e1 e2 e4 e5
    simp at e1 e2 e4 e5
    subst e1 e2 e4 e5
    have u0' : DataW.trod enc Try.prog W 0 (fun _ => true) true n' 29 [x0, x1] = some z0 := by
      simp only [cellsConf, Value.cells] at u0; simpa using u0
    have u3' : DataW.trod enc Try.prog W 0 (fun _ => true) true n' 30 [x4] = some z3 := by
      simp only [cellsMs, Value.cells] at u3; simpa using u3
    simp only [Prod.mk.injEq] at hz
    obtain ⟨a, n, c, V, a2, n2, c2, L, d1, d2, hr⟩ := cfRow_of rfl u0' (fun x hx => hlt x (by rw [hz.2]; simp [hx]))
    obtain ⟨a3, m, e, M, rfl, h3⟩ := msRow_of u3' (fun x hx => hlt x (by rw [hz.2]; simp [hx]))
    obtain ⟨i1, rfl, b1⟩ := u64_nat w1
    obtain ⟨i2, rfl, b2⟩ := u64_nat w2
    obtain ⟨i4, rfl, b4⟩ := u64_nat w4
    obtain ⟨i5, rfl, b5⟩ := u64_nat w5
    have hde := hr.datum
    have hcs := hr.cells
    simp only [List.cons.injEq, and_true] at hcs
    obtain ⟨rfl, rfl⟩ := hcs
    have hall : ∀ q, q ∈ d1.weights Try.prog 27 ∨ q ∈ d2.weights Try.prog 27 ∨ q ∈ z3.1.weights Try.prog 30 → q ≤ 140737488351232 := fun q hq => by
      have := List.all_eq_true.1 hZ _ (DataW.weights_mem_each hj hd q (by
        rw [hz.1, hde]
        simp only [DataW.weights, DataW.weightsEach, Try.underlying32, Try.underlying29, List.map_cons, List.map_nil, List.mem_append, List.append_nil]
        rcases hq with hq | hq | hq
        · exact .inl (.inl hq)
        · exact .inl (.inr hq)
        · exact .inr (.inr (.inr (.inl hq)))))
      exact of_decide_eq_true this
    have r1 := hr.row.room (fun q hq => hall q (.inl hq))
    have r2 := hr.row2.room (fun q hq => hall q (.inr (.inl hq)))
    have r3 := h3.room (fun q hq => hall q (.inr (.inr hq)))
    exact ⟨a, n, c, V, a2, n2, c2, L, a3, m, e, M, i1, i2, i4, i5, rfl, ⟨⟨hr.row.hlen, r1, h3.hlen, r3, hr.row.mem, h3.mem⟩, hr.row2.hlen, by omega, hr.row2.mem, hr.row.nums, h3.nums⟩, b1, b2, b4, b5⟩
set_option maxRecDepth 100000 in
set_option maxHeartbeats 4000000 in
theorem mostArg_of {H : Type} {enc : TypeId × Value → H} {W : World} {r : Reach} {b0 : Nat} {v : Value} {d : DataW H} {p : List MemPlace} {ts : List TypeId} {ds : List (DataW H)} {j : Nat}
    (hv : Value.okWide Try.prog W r b0 40 v) (h : DataW.Trod enc Try.prog W 0 (fun _ => true) true 40 v d p) (hlt : ∀ x ∈ p, x.block < W.heap.size)
    (hZ : (DataW.weightsEach Try.prog ts ds).all (· ≤ reachBytes) = true) (hj : ts[j]? = some 40) (hd : ds[j]? = some d) : ∃ a n c V a2 n2 c2 L a3 m e M now s dr, v = .agg #[.slice a n c, .slice a2 n2 c2, .int .u64 (now : Nat), .slice a3 m e, .int .u64 (s : Nat), .int .u64 (dr : Nat)] ∧ CfIn W n c a a2 V n2 c2 L m e a3 M ∧ now < 18446744073709551616 ∧ s < 18446744073709551616 ∧ dr < 18446744073709551616 := by
  obtain ⟨cs, rfl, hsz⟩ := okWide_struct Try.underlying40 hv
  rw [cellsMost] at hsz
  obtain ⟨fuel, hf⟩ := h
  obtain ⟨z0, z1, z2, z3, z4, n', hz, u0, u1, u2, u3, u4⟩ := trodS5 Try.underlying40 hf
  obtain ⟨l⟩ := cs
  match l, hsz with
  | [x0, x1, x2, x3, x4, x5], _ =>
    obtain ⟨y1, e1, _, w1⟩ := DataW.trod_int Try.underlying22 u1
    obtain ⟨y3, e3, _, w3⟩ := DataW.trod_int Try.underlying22 u3
    obtain ⟨y4, e4, _, w4⟩ := DataW.trod_int Try.underlying22 u4
    simp only [cellsU64, Value.cells] at e1 e3 e4
    simp at e1 e3 e4
    subst e1 e3 e4
    have u0' : DataW.trod enc Try.prog W 0 (fun _ => true) true n' 29 [x0, x1] = some z0 := by
      simp only [cellsConf, Value.cells] at u0; simpa using u0
    have u2' : DataW.trod enc Try.prog W 0 (fun _ => true) true n' 30 [x3] = some z2 := by
      simp only [cellsMs, Value.cells] at u2; simpa using u2
    simp only [Prod.mk.injEq] at hz
    obtain ⟨a, n, c, V, a2, n2, c2, L, d1, d2, hr⟩ := cfRow_of rfl u0' (fun x hx => hlt x (by rw [hz.2]; simp [hx]))
    obtain ⟨a3, m, e, M, rfl, h3⟩ := msRow_of u2' (fun x hx => hlt x (by rw [hz.2]; simp [hx]))
    obtain ⟨i1, rfl, b1⟩ := u64_nat w1
    obtain ⟨i3, rfl, b3⟩ := u64_nat w3
    obtain ⟨i4, rfl, b4⟩ := u64_nat w4
    have hde := hr.datum
    have hcs := hr.cells
    simp only [List.cons.injEq, and_true] at hcs
    obtain ⟨rfl, rfl⟩ := hcs
    have hall : ∀ q, q ∈ d1.weights Try.prog 27 ∨ q ∈ d2.weights Try.prog 27 ∨ q ∈ z2.1.weights Try.prog 30 → q ≤ 140737488351232 := fun q hq => by
      have := List.all_eq_true.1 hZ _ (DataW.weights_mem_each hj hd q (by
        rw [hz.1, hde]
        simp only [DataW.weights, DataW.weightsEach, Try.underlying40, Try.underlying29, List.map_cons, List.map_nil, List.mem_append, List.append_nil]
        rcases hq with hq | hq | hq
        · exact .inl (.inl hq)
        · exact .inl (.inr hq)
        · exact .inr (.inr (.inl hq))))
      exact of_decide_eq_true this
    have r1 := hr.row.room (fun q hq => hall q (.inl hq))
    have r2 := hr.row2.room (fun q hq => hall q (.inr (.inl hq)))
    have r3 := h3.room (fun q hq => hall q (.inr (.inr hq)))
    exact ⟨a, n, c, V, a2, n2, c2, L, a3, m, e, M, i1, i3, i4, rfl, ⟨⟨hr.row.hlen, r1, h3.hlen, r3, hr.row.mem, h3.mem⟩, hr.row2.hlen, by omega, hr.row2.mem, hr.row.nums, h3.nums⟩, b1, b3, b4⟩
end Go.Proofs.Ytoabpakichjieaa
