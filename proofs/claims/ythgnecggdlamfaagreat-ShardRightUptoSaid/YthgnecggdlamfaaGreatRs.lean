/- Arguments that are shards, of bounded bulk: what their reading gives. -/
import Derived.Test.YthgnecggdlamfaaGreatYr
namespace Go.Proofs.YthgnecggdlamfaaGreat
open Go.ChangeShapes Go.WideShapes Go.ChangeAt Go.RowKit Go.Deep Go.Joins

theorem cellsStr : Tryz.prog.cellsOf 9 = 1 := by kernel_rfl
theorem cellsU64 : Tryz.prog.cellsOf 26 = 1 := by kernel_rfl
theorem cellsBoo : Tryz.prog.cellsOf 4 = 1 := by kernel_rfl
theorem cellsTx : Tryz.prog.cellsOf 33 = 2 := by kernel_rfl
theorem cellsPut : Tryz.prog.cellsOf 35 = 3 := by kernel_rfl
theorem cellsRow : Tryz.prog.cellsOf 46 = 3 := by kernel_rfl
theorem cellsHold : Tryz.prog.cellsOf 54 = 4 := by kernel_rfl
theorem cellsOpen : Tryz.prog.cellsOf 50 = 5 := by kernel_rfl
theorem cellsDone : Tryz.prog.cellsOf 64 = 3 := by kernel_rfl
theorem cellsShard : Tryz.prog.cellsOf 28 = 5 := by kernel_rfl
theorem cellsPus : Tryz.prog.cellsOf 36 = 1 := by kernel_rfl
theorem cellsRos : Tryz.prog.cellsOf 22 = 1 := by kernel_rfl
theorem cellsHos : Tryz.prog.cellsOf 23 = 1 := by kernel_rfl
theorem cellsOps : Tryz.prog.cellsOf 24 = 1 := by kernel_rfl
theorem cellsDns : Tryz.prog.cellsOf 25 = 1 := by kernel_rfl
theorem bulk_le {H : Type} {l : List (DataW H)} (hk : Rows.uptoSmall H l = true) : Rows.uptoBulkAll l ≤ 1048576 := of_decide_eq_true hk
theorem bulk_one {H : Type} (x : DataW H) : 1 ≤ Rows.uptoBulk x := by
  cases x with
  | lit l => cases l <;> simp [Rows.uptoBulk]
  | _ => simp [Rows.uptoBulk]
theorem bulkAll_sum {H : Type} {g : Nat → Nat} {D : Nat → DataW H} : ∀ l : List Nat, (∀ i ∈ l, g i ≤ Rows.uptoBulk (D i)) → (l.map g).sum ≤ Rows.uptoBulkAll (l.map D) ∧ l.length ≤ Rows.uptoBulkAll (l.map D)
  | [], _ => ⟨Nat.le_refl _, Nat.zero_le _⟩
  | i :: r, h => by
    obtain ⟨h1, h2⟩ := bulkAll_sum (g := g) (D := D) r fun j hj => h j (by simp [hj])
    have h3 := h i (by simp)
    have h4 := bulk_one (D i)
    simp only [List.map_cons, List.sum_cons, Rows.uptoBulkAll, List.length_cons]
    exact ⟨by omega, by omega⟩
theorem bulkAll_mem {H : Type} {d : DataW H} : ∀ {l : List (DataW H)}, d ∈ l → Rows.uptoBulk d ≤ Rows.uptoBulkAll l
  | x :: r, h => by
    rw [Rows.uptoBulkAll]
    rcases List.mem_cons.1 h with rfl | h
    · omega
    · have := bulkAll_mem h
      omega
set_option maxRecDepth 100000 in
/-- A slice's elements, each by its own reading; what they measure together. -/
theorem rowB_of {H α : Type} {enc : TypeId × Value → H} {W : World} {fuel : Nat} {T E : TypeId} {k : Nat} (dflt : α) (f : α → List Value) (Q : α → Prop) (g : α → Nat)
    (hT : Tryz.prog.underlying T = some (.slice E)) (hk : Tryz.prog.cellsOf E = k) (hk0 : 0 < k)
    (hel : ∀ fu cs y, cs.length = k → DataW.trod enc Tryz.prog W 0 (fun _ => true) true fu E cs = some y → (∀ x ∈ y.2, x.block < W.heap.size) → Rows.uptoBulk y.1 ≤ 1048576 → ∃ x, cs = f x ∧ Q x ∧ g x ≤ Rows.uptoBulk y.1)
    {c : Value} {y : DataW H × List MemPlace}
    (hf : DataW.trod enc Tryz.prog W 0 (fun _ => true) true fuel T [c] = some y) (hlt : ∀ x ∈ y.2, x.block < W.heap.size) (hb : Rows.uptoBulk y.1 ≤ 1048576) :
    ∃ a n cap L, c = .slice a n cap ∧ L.length = n ∧ (n ≤ cap ∧ cap ≤ maxLen) ∧ Rw k f W a L ∧ (∀ x ∈ L, Q x) ∧ (L.map g).sum ≤ Rows.uptoBulk y.1 ∧ n ≤ 1048576 := by
  obtain ⟨d, p⟩ := y
  rcases open_slice hT hf with ⟨hcs, hx⟩ | ⟨a', len, cap', m, n, D, Pl, hcs, _, hl, hm, hmm, hx, hi⟩
  · simp at hcs
    subst hcs
    exact ⟨none, 0, 0, [], rfl, rfl, ⟨Nat.le_refl _, by decide⟩, fun j x hx => by simp at hx, fun x hx => by simp at hx, Nat.zero_le _, by omega⟩
  · simp at hcs
    subst hcs
    simp only [Prod.mk.injEq] at hx
    obtain ⟨rfl, rfl⟩ := hx
    simp only [if_true] at hmm
    subst hmm
    simp only at hlt hb ⊢
    have hbk : Rows.uptoBulkAll ((List.range len).map D) ≤ 1048576 := by
      rw [Rows.uptoBulk] at hb; omega
    obtain ⟨b, off, spot⟩ := a'
    have hspot : 0 < len → spot = none := by
      intro h0
      obtain ⟨cs', hc, _⟩ := hi 0 (by omega)
      obtain ⟨_, hcl, hat⟩ := World.cells?_some hc
      rw [hk] at hcl hat
      have s0 := hat 0 hk0
      rw [List.getElem?_eq_getElem (by omega : 0 < cs'.length)] at s0
      simpa [Addr.add] using World.cell?_spot s0
    have hone : ∀ i, ∃ x : α, i < len → spot = none ∧ b < W.heap.size ∧ (∀ j u, (f x)[j]? = some u → W.cell? ⟨b, off + i * k + j, none⟩ = some u) ∧ Q x ∧ g x ≤ Rows.uptoBulk (D i) := by
      intro i
      by_cases hil : i < len
      · obtain ⟨cs', hc, ht⟩ := hi i (by omega)
        rw [hk] at hc
        obtain ⟨_, hcl, hat⟩ := World.cells?_some hc
        obtain rfl := hspot (by omega)
        obtain ⟨x, rfl, hx, hg⟩ := hel _ cs' _ hcl ht (fun q hq => hlt q (List.mem_append.2 (.inr (List.mem_flatMap.2 ⟨i, List.mem_range.2 (by omega), hq⟩)))) (Nat.le_trans (bulkAll_mem (List.mem_map.2 ⟨i, List.mem_range.2 hil, rfl⟩)) hbk)
        refine ⟨x, fun _ => ⟨rfl, ?_, fun j u hj => ?_, hx, hg⟩⟩
        · exact hlt (.cell b off) (List.mem_append.2 (.inl (MemPlace.mem_row.2 ⟨0, by rw [hk]; exact Nat.mul_pos (by omega) hk0, by simp⟩)))
        · have hjl := (List.getElem?_eq_some_iff.1 hj).1
          have s0 := hat j (by omega)
          rw [add_plain, add_plain, hj] at s0
          exact s0
      · exact ⟨dflt, fun h => absurd h hil⟩
    have hget : ∀ i x, ((List.range len).map fun i => Classical.choose (hone i))[i]? = some x → i < len ∧ x = Classical.choose (hone i) := fun i x hx => by
      have hil : i < len := by have := (List.getElem?_eq_some_iff.1 hx).1; simpa using this
      rw [List.getElem?_map, List.getElem?_range hil] at hx
      exact ⟨hil, (Option.some.inj hx).symm⟩
    have hsum := bulkAll_sum (g := fun i => g (Classical.choose (hone i))) (D := D) (List.range len) (fun i hi2 => (Classical.choose_spec (hone i) (List.mem_range.1 hi2)).2.2.2.2)
    rw [List.length_range] at hsum
    refine ⟨_, len, m, (List.range len).map fun i => Classical.choose (hone i), rfl, by simp, ⟨hl, hm⟩, fun i x hx => ?_, fun x hx => ?_, ?_, by omega⟩
    · obtain ⟨hil, rfl⟩ := hget i x hx
      obtain ⟨g3, g4, g6, _⟩ := Classical.choose_spec (hone i) hil
      exact ⟨b, off, by rw [g3], g4, g6⟩
    · obtain ⟨i, hi2⟩ := List.mem_iff_getElem?.1 hx
      obtain ⟨hil, rfl⟩ := hget i x hi2
      exact (Classical.choose_spec (hone i) hil).2.2.2.1
    · rw [List.map_map]
      simp only [Rows.uptoBulk]
      exact Nat.le_trans hsum.1 (by omega)
section
variable {H : Type} {enc : TypeId × Value → H} {W : World} {fuel : Nat} {cs : List Value} {y : DataW H × List MemPlace}
theorem open_sb {t : TypeId} {fs : Array Field} (ht : Tryz.prog.underlying t = some (.struct fs)) (h : DataW.trod enc Tryz.prog W 0 (fun _ => true) true fuel t cs = some y) (hlt : ∀ q ∈ y.2, q.block < W.heap.size) :
    ∃ n, ∀ (i : Nat) (f : Field), fs[i]? = some f → ∃ z, DataW.trod enc Tryz.prog W 0 (fun _ => true) true n f.type ((cs.drop f.offset).take (Tryz.prog.cellsOf f.type)) = some z ∧ (∀ q ∈ z.2, q.block < W.heap.size) ∧ Rows.uptoBulk z.1 ≤ Rows.uptoBulk y.1 := by
  obtain ⟨xs, n, _, rfl, _, hlen, hf⟩ := DataW.trod_struct ht h
  refine ⟨n, fun i f hi => ?_⟩
  have hl := (Array.getElem?_eq_some_iff.1 hi).1
  have hz : xs[i]? = some (xs[i]'(by omega)) := List.getElem?_eq_getElem _
  refine ⟨_, (hf i f hi).trans hz, fun q hq => hlt q (List.mem_flatMap.2 ⟨_, List.getElem_mem _, hq⟩), ?_⟩
  simp only [Rows.uptoBulk]
  have := bulkAll_mem (d := (xs[i]'(by omega)).1) (l := xs.map fun z => z.1) (List.mem_map.2 ⟨_, List.getElem_mem _, rfl⟩)
  omega
end
theorem sb_str {H : Type} {s : ByteArray} {b : Nat} (h : Rows.uptoBulk (H := H) (.lit (.string s.data.toList)) ≤ b) (hb : b ≤ 1048576) : s.size ≤ 140737488351232 := by
  rw [Rows.uptoBulk, Array.length_toList] at h
  have : s.size = s.data.size := rfl
  omega
section
variable {H : Type} {enc : TypeId × Value → H} {W : World} {f : Nat} {cs : List Value} {y : DataW H × List MemPlace}
set_option maxRecDepth 100000 in
theorem txReadB (hsz : cs.length = 2)
    (ht : DataW.trod enc Tryz.prog W 0 (fun _ => true) true f 33 cs = some y) : ∃ x : Tx, cs = txC x ∧ okX x := by
  obtain ⟨z0, z1, n', hz, _, u0, u1⟩ := trod_struct2 Tryz.underlying33 ht
  match cs, hsz with
  | [c0, c1], _ =>
    obtain ⟨z, e0, _, w0⟩ := DataW.trod_int Tryz.underlying26 u0
    obtain ⟨z', e1, _, w1⟩ := DataW.trod_int Tryz.underlying26 u1
    simp only [cellsU64] at e0 e1
    simp at e0 e1
    subst e0 e1
    obtain ⟨a, rfl, ha⟩ := u64_nat w0
    obtain ⟨i, rfl, hi⟩ := u64_nat w1
    exact ⟨⟨a, i⟩, rfl, ha, hi⟩
set_option maxRecDepth 100000 in
set_option maxHeartbeats 1000000 in
theorem puReadB (hsz : cs.length = 3)
    (ht : DataW.trod enc Tryz.prog W 0 (fun _ => true) true f 35 cs = some y) (hlt : ∀ q ∈ y.2, q.block < W.heap.size) (hb : Rows.uptoBulk y.1 ≤ 1048576) : ∃ x : Pu, cs = puC x ∧ (x.key.size ≤ 140737488351232 ∧ x.val.size ≤ 140737488351232) ∧ 0 ≤ Rows.uptoBulk y.1 := by
  obtain ⟨n, h⟩ := open_sb Tryz.underlying35 ht hlt
  obtain ⟨z0, u0, _, s0⟩ := h 0 _ rfl
  obtain ⟨z1, u1, _, s1⟩ := h 1 _ rfl
  obtain ⟨z2, u2, _, _⟩ := h 2 _ rfl
  match cs, hsz with
  | [c0, c1, c2], _ =>
    simp only [List.getElem_toArray, List.getElem_cons_zero, List.getElem_cons_succ, cellsStr, cellsBoo] at u0 u1 u2
    obtain ⟨k, e0, h0, _⟩ := DataW.trod_string Tryz.underlying9 u0
    obtain ⟨v, e1, h1, _⟩ := DataW.trod_string Tryz.underlying9 u1
    obtain ⟨g, e2, h2⟩ := DataW.trod_bool Tryz.underlying4 u2
    simp at e0 e1 e2
    subst e0 e1 e2
    rw [h0] at s0
    rw [h1] at s1
    exact ⟨⟨k, v, g⟩, rfl, ⟨sb_str s0 hb, sb_str s1 hb⟩, Nat.zero_le _⟩
set_option maxRecDepth 100000 in
set_option maxHeartbeats 1000000 in
theorem roReadB (hsz : cs.length = 3)
    (ht : DataW.trod enc Tryz.prog W 0 (fun _ => true) true f 46 cs = some y) (hlt : ∀ q ∈ y.2, q.block < W.heap.size) (hb : Rows.uptoBulk y.1 ≤ 1048576) : ∃ x : Ro, cs = roC x ∧ (x.key.size ≤ 140737488351232 ∧ x.val.size ≤ 140737488351232) ∧ 0 ≤ Rows.uptoBulk y.1 := by
  obtain ⟨n, h⟩ := open_sb Tryz.underlying46 ht hlt
  obtain ⟨z0, u0, _, s0⟩ := h 0 _ rfl
  obtain ⟨z1, u1, _, s1⟩ := h 1 _ rfl
  obtain ⟨z2, u2, _, _⟩ := h 2 _ rfl
  match cs, hsz with
  | [c0, c1, c2], _ =>
    simp only [List.getElem_toArray, List.getElem_cons_zero, List.getElem_cons_succ, cellsStr, cellsU64] at u0 u1 u2
    obtain ⟨k, e0, h0, _⟩ := DataW.trod_string Tryz.underlying9 u0
    obtain ⟨v, e1, h1, _⟩ := DataW.trod_string Tryz.underlying9 u1
    obtain ⟨g, e2, _, w2⟩ := DataW.trod_int Tryz.underlying26 u2
    simp at e0 e1 e2
    subst e0 e1 e2
    rw [h0] at s0
    rw [h1] at s1
    obtain ⟨g, rfl, _⟩ := u64_nat w2
    exact ⟨⟨k, v, g⟩, rfl, ⟨sb_str s0 hb, sb_str s1 hb⟩, Nat.zero_le _⟩
set_option maxRecDepth 100000 in
set_option maxHeartbeats 1000000 in
theorem hoReadB (hsz : cs.length = 4)
    (ht : DataW.trod enc Tryz.prog W 0 (fun _ => true) true f 54 cs = some y) (hlt : ∀ q ∈ y.2, q.block < W.heap.size) (hb : Rows.uptoBulk y.1 ≤ 1048576) : ∃ x : Ho, cs = hoC x ∧ okA x.key x.t ∧ 0 ≤ Rows.uptoBulk y.1 := by
  obtain ⟨n, h⟩ := open_sb Tryz.underlying54 ht hlt
  obtain ⟨z0, u0, _, s0⟩ := h 0 _ rfl
  obtain ⟨z1, u1, _, _⟩ := h 1 _ rfl
  obtain ⟨z2, u2, _, _⟩ := h 2 _ rfl
  match cs, hsz with
  | [c0, c1, c2, c3], _ =>
    simp only [List.getElem_toArray, List.getElem_cons_zero, List.getElem_cons_succ, cellsStr, cellsTx, cellsBoo] at u0 u1 u2
    obtain ⟨k, e0, h0, _⟩ := DataW.trod_string Tryz.underlying9 u0
    have u1' : DataW.trod enc Tryz.prog W 0 (fun _ => true) true n 33 [c1, c2] = some z1 := by simpa using u1
    obtain ⟨t, ht1, hto⟩ := txReadB rfl u1'
    obtain ⟨g, e2, h2⟩ := DataW.trod_bool Tryz.underlying4 u2
    simp at e0 e2
    simp only [txC, List.cons.injEq, and_true] at ht1
    obtain ⟨rfl, rfl⟩ := ht1
    subst e0 e2
    rw [h0] at s0
    exact ⟨⟨k, t, g⟩, rfl, ⟨sb_str s0 hb, hto⟩, Nat.zero_le _⟩
set_option maxRecDepth 100000 in
set_option maxHeartbeats 1000000 in
theorem dnReadB (hsz : cs.length = 3)
    (ht : DataW.trod enc Tryz.prog W 0 (fun _ => true) true f 64 cs = some y) (hlt : ∀ q ∈ y.2, q.block < W.heap.size) (_ : Rows.uptoBulk y.1 ≤ 1048576) : ∃ x : Sdn, cs = sdnC x ∧ okX x.t ∧ 0 ≤ Rows.uptoBulk y.1 := by
  obtain ⟨n, h⟩ := open_sb Tryz.underlying64 ht hlt
  obtain ⟨z1, u1, _, _⟩ := h 0 _ rfl
  obtain ⟨z2, u2, _, _⟩ := h 1 _ rfl
  match cs, hsz with
  | [c1, c2, c3], _ =>
    simp only [List.getElem_toArray, List.getElem_cons_zero, List.getElem_cons_succ, cellsTx, cellsBoo] at u1 u2
    have u1' : DataW.trod enc Tryz.prog W 0 (fun _ => true) true n 33 [c1, c2] = some z1 := by simpa using u1
    obtain ⟨t, ht1, hto⟩ := txReadB rfl u1'
    obtain ⟨g, e2, h2⟩ := DataW.trod_bool Tryz.underlying4 u2
    simp at e2
    simp only [txC, List.cons.injEq, and_true] at ht1
    obtain ⟨rfl, rfl⟩ := ht1
    subst e2
    exact ⟨⟨t, g⟩, rfl, hto, Nat.zero_le _⟩
theorem sum_ones {α : Type} : ∀ P : List α, (P.map fun _ => 1).sum = P.length
  | [] => rfl
  | _ :: r => by simp only [List.map_cons, List.sum_cons, List.length_cons, sum_ones r]; omega
/-- What an open one is known for. -/
def SoQ (W : World) (y : SopM) : Prop := okX y.x.t ∧ y.x.puts.length ≤ 1048576 ∧ smlP y.x.puts ∧ Pus W y.a y.x.puts ∧ y.x.puts.length ≤ y.c ∧ y.c ≤ maxLen
set_option maxRecDepth 100000 in
set_option maxHeartbeats 2000000 in
theorem soReadB (hsz : cs.length = 5)
    (ht : DataW.trod enc Tryz.prog W 0 (fun _ => true) true f 50 cs = some y) (hlt : ∀ q ∈ y.2, q.block < W.heap.size) (hb : Rows.uptoBulk y.1 ≤ 1048576) : ∃ x : SopM, cs = sopC x ∧ SoQ W x ∧ x.x.puts.length ≤ Rows.uptoBulk y.1 := by
  obtain ⟨n, h⟩ := open_sb Tryz.underlying50 ht hlt
  obtain ⟨z1, u1, _, _⟩ := h 0 _ rfl
  obtain ⟨z2, u2, _, _⟩ := h 1 _ rfl
  obtain ⟨z3, u3, _, _⟩ := h 2 _ rfl
  obtain ⟨z4, u4, l4, s4⟩ := h 3 _ rfl
  match cs, hsz with
  | [c1, c2, c3, c4, c5], _ =>
    simp only [List.getElem_toArray, List.getElem_cons_zero, List.getElem_cons_succ, cellsTx, cellsBoo, cellsPus] at u1 u2 u3 u4
    have u1' : DataW.trod enc Tryz.prog W 0 (fun _ => true) true n 33 [c1, c2] = some z1 := by simpa using u1
    obtain ⟨t, ht1, hto⟩ := txReadB rfl u1'
    obtain ⟨g, e2, h2⟩ := DataW.trod_bool Tryz.underlying4 u2
    obtain ⟨g', e3, h3⟩ := DataW.trod_bool Tryz.underlying4 u3
    have u4' : DataW.trod enc Tryz.prog W 0 (fun _ => true) true n 36 [c5] = some z4 := by simpa using u4
    obtain ⟨a, m, cap, P, e5, hm, hc, hP, hQ, hs, hn⟩ := rowB_of (⟨⟨#[]⟩, ⟨#[]⟩, false⟩ : Pu) puC (fun x => x.key.size ≤ 140737488351232 ∧ x.val.size ≤ 140737488351232) (fun _ => 1) Tryz.underlying36 cellsPut (by decide) (fun f cs y hsz ht hl hb => by
      obtain ⟨x, h1, h2, _⟩ := puReadB hsz ht hl hb
      exact ⟨x, h1, h2, bulk_one _⟩) u4' l4 (by omega)
    simp at e2 e3
    simp only [txC, List.cons.injEq, and_true] at ht1
    obtain ⟨rfl, rfl⟩ := ht1
    subst e2 e3 e5 hm
    refine ⟨⟨⟨t, g, g', P⟩, a, cap⟩, rfl, ⟨hto, hn, hQ, hP, hc⟩, ?_⟩
    rw [sum_ones] at hs
    simp only
    omega
end
theorem opnK_sum : ∀ O : List Sop, (opnK O).length ≤ (O.map fun x => x.puts.length).sum
  | [] => Nat.le_refl _
  | x :: r => by
    have ih := opnK_sum r
    have h1 : (putK x.puts).length ≤ x.puts.length := by
      unfold putK; rw [List.length_map]; exact List.length_filter_le _ _
    rw [show opnK (x :: r) = (if x.fm then putK x.puts else []) ++ opnK r from rfl, List.length_append, List.map_cons, List.sum_cons]
    split
    · omega
    · rw [List.length_nil]; omega
set_option maxRecDepth 100000 in
set_option maxHeartbeats 4000000 in
theorem shArg_of {H : Type} {enc : TypeId × Value → H} {W : World} {r : Reach} {b0 : Nat} {v : Value} {d : DataW H} {p : List MemPlace}
    (hv : Value.okWide Tryz.prog W r b0 28 v) (h : DataW.Trod enc Tryz.prog W 0 (fun _ => true) true 28 v d p) (hlt : ∀ x ∈ p, x.block < W.heap.size) (hb : Rows.uptoBulk d ≤ 1048576) :
    ∃ s A, v = shV s A ∧ ShM W s A ∧ SzS s := by
  obtain ⟨cs, rfl, hsz⟩ := okWide_struct Tryz.underlying28 hv
  rw [cellsShard] at hsz
  obtain ⟨fuel, hf⟩ := h
  obtain ⟨n, h⟩ := open_sb Tryz.underlying28 hf hlt
  obtain ⟨z0, u0, l0, s0⟩ := h 0 _ rfl
  obtain ⟨z1, u1, l1, s1⟩ := h 1 _ rfl
  obtain ⟨z2, u2, l2, s2⟩ := h 2 _ rfl
  obtain ⟨z3, u3, l3, s3⟩ := h 3 _ rfl
  obtain ⟨z4, u4, _, _⟩ := h 4 _ rfl
  obtain ⟨l⟩ := cs
  match l, hsz with
  | [c0, c1, c2, c3, c4], _ =>
    simp only [List.getElem_toArray, List.getElem_cons_zero, List.getElem_cons_succ, cellsRos, cellsHos, cellsOps, cellsDns, cellsU64, Value.cells] at u0 u1 u2 u3 u4
    simp only at s0 s1 s2 s3
    obtain ⟨a0, n0, p0, L0, e0, m0, q0, r0, t0, _, b0⟩ := rowB_of (c := c0) (⟨⟨#[]⟩, ⟨#[]⟩, 0⟩ : Ro) roC (fun x => x.key.size ≤ 140737488351232 ∧ x.val.size ≤ 140737488351232) (fun _ => 0) Tryz.underlying22 cellsRow (by decide) (fun f cs y hsz ht hl hb => roReadB hsz ht hl hb) (by simpa using u0) l0 (by omega)
    obtain ⟨a1, n1, p1, L1, e1, m1, q1, r1, t1, _, b1⟩ := rowB_of (c := c1) (⟨⟨#[]⟩, ⟨0, 0⟩, false⟩ : Ho) hoC (fun x => okA x.key x.t) (fun _ => 0) Tryz.underlying23 cellsHold (by decide) (fun f cs y hsz ht hl hb => hoReadB hsz ht hl hb) (by simpa using u1) l1 (by omega)
    obtain ⟨a2, n2, p2, L2, e2, m2, q2, r2, t2, g2, b2⟩ := rowB_of (c := c2) (⟨⟨⟨0, 0⟩, false, false, []⟩, none, 0⟩ : SopM) sopC (SoQ W) (fun x => x.x.puts.length) Tryz.underlying24 cellsOpen (by decide) (fun f cs y hsz ht hl hb => soReadB hsz ht hl hb) (by simpa using u2) l2 (by omega)
    obtain ⟨a3, n3, p3, L3, e3, m3, q3, r3, t3, _, b3⟩ := rowB_of (c := c3) (⟨⟨0, 0⟩, false⟩ : Sdn) sdnC (fun x => okX x.t) (fun _ => 0) Tryz.underlying25 cellsDone (by decide) (fun f cs y hsz ht hl hb => dnReadB hsz ht hl hb) (by simpa using u3) l3 (by omega)
    obtain ⟨z, e4, _, w4⟩ := DataW.trod_int Tryz.underlying26 u4
    simp at e4
    obtain ⟨ver, rfl, hver⟩ := u64_nat w4
    subst e0 e1 e2 e3 e4 m0 m1 m2 m3
    refine ⟨⟨L0, L1, L2.map fun y => y.x, L3, ver⟩, ⟨a0, p0, a1, p1, a2, p2, L2, a3, p3⟩, ?_, ⟨r0, r1, rfl, r2, fun y hy => (t2 y hy).2.2.2.1, r3, ⟨q0, q1, ?_, q3, fun y hy => (t2 y hy).2.2.2.2⟩⟩, ⟨?_, t0, ?_, t1, ?_, fun x hx => ?_, ?_, t3, hver, ?_⟩⟩
    · simp only [shV, List.length_map]
    · simp only [List.length_map]; exact q2
    · simp only; omega
    · simp only; omega
    · simp only [List.length_map]; omega
    · obtain ⟨y, hy, rfl⟩ := List.mem_map.1 hx
      have := t2 y hy
      exact ⟨this.1, by have := this.2.1; omega, this.2.2.1⟩
    · simp only; omega
    · have h1 := opnK_sum (L2.map fun y => y.x)
      rw [List.map_map] at h1
      have h2 : (L2.map ((fun x : Sop => x.puts.length) ∘ fun y => y.x)).sum ≤ 1048576 := by
        have : (L2.map ((fun x : Sop => x.puts.length) ∘ fun y => y.x)) = L2.map fun x => x.x.puts.length := rfl
        rw [this]; omega
      simp only [allK, List.length_append, List.length_map, putK, List.filter_nil, List.map_nil, List.length_nil]
      omega
end Go.Proofs.YthgnecggdlamfaaGreat
