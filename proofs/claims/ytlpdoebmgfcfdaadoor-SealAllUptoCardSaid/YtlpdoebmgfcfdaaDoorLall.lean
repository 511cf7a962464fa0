/- SealAll: whatever bytes there are, the sealed texts in them are told one by one, again when they are asked for again, and as far as they are asked for. -/
import Derived.Test.YtlpdoebmgfcfdaaDoorShown
import Derived.Test.YtlpdoebmgfcfdaaDoorPwhole
import Derived.Test.YtlpdoebmgfcfdaaDoorRall
namespace Go.Proofs.YtlpdoebmgfcfdaaDoor
open Go.RowKit Go.Shelf
attribute [local go_sem] Oper.semAt_some

/-- The call's own boxes, the texts in their slice, and that what lay ahead of the call lies as it lay. -/
structure Ab (b : List UInt8) (a : Option Addr) (cap : Nat) (most : Int) (w : World) (B6 : Nat) (W : World) : Prop where
  c3 : W.cell? ⟨w.heap.size, 0, none⟩ = some (.int .i64 most)
  c4 : W.cell? ⟨w.heap.size + 1, 0, none⟩ = some (.bool false)
  f4 : W.frozen? ⟨w.heap.size + 1, 0, none⟩ = false
  c6 : W.cell? ⟨B6, 0, none⟩ = some (.slice a (allB b).length cap)
  row : ∀ i x, (allB b)[i]? = some x → ∃ g, a = some ⟨g, 0, none⟩ ∧ g < B6 ∧ W.cell? ⟨g, i, none⟩ = some (strV x)
  lo : w.heap.size + 2 ≤ B6
  sz : B6 + 1 ≤ W.heap.size
  bel : Below w.heap.size w W
section
variable {b : List UInt8} {a : Option Addr} {cap : Nat} {most : Int} {w W W2 : World} {B6 : Nat}
theorem Ab.later (h : Ab b a cap most w B6 W) (hb : Below W.heap.size W W2) : Ab b a cap most w B6 W2 := by
  have h1 := h.sz
  have h2 := h.lo
  have key : ∀ (g i : Nat), g < W.heap.size → W2.cell? ⟨g, i, none⟩ = W.cell? ⟨g, i, none⟩ := fun g i hg => hb.cell (p := ⟨g, i, none⟩) hg
  refine ⟨(key _ _ (by omega)).trans h.c3, (key _ _ (by omega)).trans h.c4, (hb.frozen (p := ⟨w.heap.size + 1, 0, none⟩) (by show w.heap.size + 1 < _; omega)).trans h.f4, (key _ _ (by omega)).trans h.c6, fun i x hx => ?_, h.lo, Nat.le_trans h.sz hb.size, h.bel.trans (hb.mono (by omega))⟩
  obtain ⟨g, e, hg, hc⟩ := h.row i x hx
  exact ⟨g, e, hg, (key _ _ (by omega)).trans hc⟩
theorem ab_own {β : Type} {B : Nat} (hB : B6 + 1 ≤ B) (hw : w.heap.size + 2 ≤ B6) : OwnFrom B (fun (_ : β) W => Ab b a cap most w B6 W) := fun s A C row hs hg hr =>
  ⟨cell_kept hs.c3 hg (fun r e => (hr r e).2), cell_kept hs.c4 hg (fun r e => (hr r e).2), (frozen_kept hs.c4 hg (fun r e => (hr r e).2)).trans hs.f4, cell_kept hs.c6 hg (fun r e => (hr r e).2),
   fun i x hx => by
    obtain ⟨g, e, hgl, hc⟩ := hs.row i x hx
    exact ⟨g, e, hgl, cell_kept hc hg (fun r e => (hr r e).2)⟩,
   hs.lo, Nat.le_trans hs.sz hg.size, hs.bel.grown hg hs.bel.size (fun k e => by have := (hr k e).1; omega)⟩
theorem Ab.set (h : Ab b a cap most w B6 W) {k : Nat} (hk : B6 + 1 ≤ k) (v : Value) : Ab b a cap most w B6 (W.setCell ⟨k, 0, none⟩ v) := by
  have h2 := h.lo
  have key : ∀ (g i : Nat), g < k → (W.setCell ⟨k, 0, none⟩ v).cell? ⟨g, i, none⟩ = W.cell? ⟨g, i, none⟩ := fun g i hg =>
    World.cell?_setCell_other _ _ _ _ (by intro e; have := congrArg Addr.block e; simp only at this; omega)
  refine ⟨(key _ _ (by omega)).trans h.c3, (key _ _ (by omega)).trans h.c4, by rw [World.frozen?_setCell]; exact h.f4, (key _ _ (by omega)).trans h.c6, fun i x hx => ?_, h.lo, by simpa using h.sz, h.bel.setCell (by show w.heap.size ≤ k; omega) _⟩
  obtain ⟨g, e, hg, hc⟩ := h.row i x hx
  exact ⟨g, e, hg, (key _ _ (by omega)).trans hc⟩
theorem ab_start {w1 w2 : World} {v : Value} (h1 : Below (w.heap.size + 2) ((w.alloc (.cells #[.int .i64 most] 3)).alloc (.cells #[.bool false] 4)) w1)
    (hv : w2.ownsRow w1.heap.size 9 1 v (allB b).length ((allB b).map strV)) (h2 : Below w1.heap.size w1 w2) :
    ∃ a cap, v = .slice a (allB b).length cap ∧ Ab b a cap most w w2.heap.size (w2.alloc (.cells #[v] 35)) := by
  have hz := h1.size
  simp only [World.size_alloc] at hz
  have c0 := cell_new_l w (.int .i64 most) 3
  have c1 := cell_new_l (w.alloc (.cells #[.int .i64 most] 3)) (.bool false) 4
  rw [World.size_alloc] at c1
  have hz2 := h2.size
  have hbel : Below w.heap.size w w2 := (((Below.refl _ w).alloc (Nat.le_refl _) _).alloc (by simp) _).trans ((h1.mono (by omega)).trans (h2.mono (by omega)))
  have k1 : ∀ (g i : Nat), g < w.heap.size + 2 → w2.cell? ⟨g, i, none⟩ = ((w.alloc (.cells #[.int .i64 most] 3)).alloc (.cells #[.bool false] 4)).cell? ⟨g, i, none⟩ := fun g i hg =>
    (h2.cell (p := ⟨g, i, none⟩) (by show g < _; omega)).trans (h1.cell (p := ⟨g, i, none⟩) hg)
  have k2 : w2.frozen? ⟨w.heap.size + 1, 0, none⟩ = ((w.alloc (.cells #[.int .i64 most] 3)).alloc (.cells #[.bool false] 4)).frozen? ⟨w.heap.size + 1, 0, none⟩ :=
    (h2.frozen (p := ⟨w.heap.size + 1, 0, none⟩) (by show w.heap.size + 1 < _; omega)).trans (h1.frozen (p := ⟨w.heap.size + 1, 0, none⟩) (by show w.heap.size + 1 < _; omega))
  have d3 : w2.cell? ⟨w.heap.size, 0, none⟩ = some (.int .i64 most) := (k1 _ _ (by omega)).trans (cell_alloc_l _ c0.1)
  have d4 : w2.cell? ⟨w.heap.size + 1, 0, none⟩ = some (.bool false) := (k1 _ _ (by omega)).trans c1.1
  have hlt := hv.lt
  obtain ⟨hl, (⟨e, hn⟩ | ⟨g, cap, cur, rfl, hg, hcur, hc1, hc2, hc3, hc4⟩)⟩ := hv
  · subst e
    refine ⟨none, 0, by rw [hn], cell_alloc_l _ d3, cell_alloc_l _ d4, frozen_alloc_l _ d4 (k2.trans c1.2), by rw [hn]; exact (cell_new_l _ _ _).1, fun i x hx => ?_, by omega, by simp, hbel.alloc (by omega) _⟩
    have := (List.getElem?_eq_some_iff.1 hx).1
    omega
  · have hgl := (hlt g rfl).2
    refine ⟨some ⟨g, 0, none⟩, cap, rfl, cell_alloc_l _ d3, cell_alloc_l _ d4, frozen_alloc_l _ d4 (k2.trans c1.2), (cell_new_l _ _ _).1, fun i x hx => ⟨g, rfl, hgl, cell_alloc_l _ ?_⟩, by omega, by simp, hbel.alloc (by omega) _⟩
    have hi := (List.getElem?_eq_some_iff.1 hx).1
    rw [cell_of_row w2 g i _ _ _ hcur, ← Array.getElem?_toList]
    have : cur.toList[i]? = ((allB b).map strV)[i]? := by rw [← hc4, List.getElem?_take_of_lt (by omega)]
    rw [this, List.getElem?_map, hx]; rfl
end
/-- A round's state: beside the boxes the one that holds which time it is. -/
structure Rb (b : List UInt8) (a : Option Addr) (cap : Nat) (most : Int) (w : World) (B6 : Nat) (T : Int) (Bt : Nat) (W : World) : Prop where
  ab : Ab b a cap most w B6 W
  ct : W.cell? ⟨Bt, 0, none⟩ = some (.int .i64 T)
  ft : W.frozen? ⟨Bt, 0, none⟩ = false
  lo : B6 + 1 ≤ Bt
  sz : Bt + 1 ≤ W.heap.size
section
variable {b : List UInt8} {a : Option Addr} {cap : Nat} {most : Int} {w W W2 : World} {B6 Bt : Nat} {T : Int}
theorem Rb.later (h : Rb b a cap most w B6 T Bt W) (hb : Below W.heap.size W W2) : Rb b a cap most w B6 T Bt W2 :=
  ⟨h.ab.later hb, (hb.cell (p := ⟨Bt, 0, none⟩) h.sz).trans h.ct, (hb.frozen (p := ⟨Bt, 0, none⟩) h.sz).trans h.ft, h.lo, Nat.le_trans h.sz hb.size⟩
theorem rb_own {β : Type} {B : Nat} (hB : Bt + 1 ≤ B) (hlo : B6 + 1 ≤ Bt) (hw : w.heap.size + 2 ≤ B6) : OwnFrom B (fun (_ : β) W => Rb b a cap most w B6 T Bt W) := fun s A C row hs hg hr =>
  ⟨ab_own (B := B) (by omega) hw s A C row hs.ab hg hr, cell_kept hs.ct hg (fun r e => (hr r e).2), (frozen_kept hs.ct hg (fun r e => (hr r e).2)).trans hs.ft, hs.lo, Nat.le_trans hs.sz hg.size⟩
theorem Rb.set (h : Rb b a cap most w B6 T Bt W) {k : Nat} (hk : Bt + 1 ≤ k) (v : Value) : Rb b a cap most w B6 T Bt (W.setCell ⟨k, 0, none⟩ v) := by
  have := h.lo
  refine ⟨h.ab.set (by omega) v, ?_, by rw [World.frozen?_setCell]; exact h.ft, h.lo, by simpa using h.sz⟩
  rw [World.cell?_setCell_other _ _ _ _ (by intro e; have := congrArg Addr.block e; simp only at this; omega)]; exact h.ct
theorem Rb.next1 (h : Rb b a cap most w B6 T Bt W) (T' : Int) : Rb b a cap most w B6 T' W.heap.size (W.alloc (.cells #[.int .i64 T'] 3)) := by
  have h1 := h.lo
  have h2 := h.sz
  have c := cell_new_l W (.int .i64 T') 3
  exact ⟨h.ab.later ((Below.refl _ W).alloc (Nat.le_refl _) _), c.1, c.2, by omega, by simp⟩
theorem held_own {β : Type} {D B : Nat} {o : Obj} (hD : D < B) : OwnFrom B (fun (_ : β) W => W.heap[D]? = some o) := fun _ A _ _ hs hg hr =>
  (hg.block D (Array.getElem?_eq_some_iff.1 hs).1 (fun e => by have := (hr D e.symm).1; omega)).trans hs
end
theorem mismatch {b : List UInt8} {pre : List Sh} {i : Nat} {x y : List UInt8} (hpre : vals pre <+: allB b) (hi : (allB b)[i]? = some y) (hx : (vals pre)[i]? = some x) : x = y := by
  obtain ⟨suf, hsuf⟩ := hpre
  rw [← hsuf, List.getElem?_append_left (List.getElem?_eq_some_iff.1 hx).1, hx] at hi
  exact Option.some.inj hi
set_option maxRecDepth 100000 in
set_option maxHeartbeats 4000000 in
theorem all_in (n : Nat) (hn : 5 ≤ n) (b : List UInt8) (hb : b.length ≤ 2097152) (most : Int) (w : World) (hT : Tz w) :
    CallsIn Fence.wide n Tryd.prog 6 #[.string ⟨b.toArray⟩, .int .i64 most] w fun e w' => e = .returned (.bool true) ∧ Below w.heap.size w w' := by
  have h1 : 1 ≤ n := by omega
  refine callsIn_of_wp_marks Tryd.func6 rfl trivial ?_ rfl
  simp only [Tryd.ntmps6, List.size_toArray, List.length_cons, List.length_nil, Nat.reduceAdd, Nat.reduceSub, Array.replicate_succ, Array.replicate_zero, List.push_toArray, List.append_toArray, List.nil_append, List.cons_append]
  gi_wp2
  refine ⟨trivial, ?_⟩
  refine (callsIn_wide.2 (shown_any _ (hT.below (((Below.refl _ _).alloc hT.n _).alloc (by have := hT.n; simp; omega) _)))).mono ?_
  rintro e w1 ⟨rfl, hb1⟩
  gi_wp2
  refine ⟨trivial, ?_⟩
  refine (callsIn_wide.2 (refAll_any b hb _)).mono ?_
  rintro e w2 ⟨v, rfl, hown, hb2⟩
  obtain ⟨a, cap, rfl, hA⟩ := ab_start (by simpa using hb1) hown hb2
  have hR : Rb b a cap most w w2.heap.size 0 (w2.heap.size + 1) ((w2.alloc (.cells #[.slice a (allB b).length cap] 35)).alloc (.cells #[.int .i64 0] 3)) := by
    have c := cell_new_l (w2.alloc (.cells #[.slice a (allB b).length cap] 35)) (.int .i64 0) 3
    rw [World.size_alloc] at c
    exact ⟨hA.later ((Below.refl _ _).alloc (Nat.le_refl _) _), c.1, c.2, Nat.le_refl _, by simp⟩
  have hNl : (allB b).length ≤ 2097152 := Nat.le_trans (all_len_le b) hb
  obtain ⟨N, hN⟩ : ∃ N, (allB b).length = N := ⟨_, rfl⟩
  rw [hN] at hNl
  have HNN := Lib.hid hN
  clear hown hA hb1 hb2
  gi_wp2
  rw [hN] at hR
  clear hN
  generalize (w2.alloc (.cells #[.slice a N cap] 35)).alloc (.cells #[.int .i64 0] 3) = W3 at hR ⊢
  generalize w2.heap.size = B6 at hR ⊢
  refine wpIn_loop_rounds 3 ?_
  rw [roundsIn_succ]
  have hct := hR.ct
  have hft := hR.ft
  have hlo := hR.ab.lo
  gi_wp2
  refine ⟨trivial, ?_⟩
  refine (callsIn_wide (n := n - 1) |>.2 (all_any _ _)).mono ?_
  rintro e w' ⟨rfl, rfl⟩
  gi_wp2
  have i0 := cell_new_l W3 (.int .i64 0) 3
  have s0 := cell_new_l (W3.alloc (.cells #[.int .i64 0] 3)) (.string ⟨b.toArray⟩) 9
  rw [World.size_alloc] at s0
  have sz0 := hR.sz
  have lo0 := hR.lo
  refine range_one h1 (gf := 28) (lb := #[.pointer (some ⟨W3.heap.size + 1, 0, none⟩)]) rfl (enters_of Tryd.func28 (by kernel_rfl) rfl) (p := 25) (q := 10) (enc := fun x : Sh => .string ⟨x.1.toArray⟩)
    (all_stops (n - 1) (by omega) (W3.heap.size + 1) b (by unfold maxLen; omega) _ (by simp) s0.1)
    (fun pre W => Rb b a cap most w B6 0 (B6 + 1) W ∧ W.cell? ⟨W3.heap.size, 0, none⟩ = some (.int .i64 (pre.length : Int)) ∧ W.frozen? ⟨W3.heap.size, 0, none⟩ = false)
    (fun (c : Code) (pre : List Sh) (W : World) => (c = .ret ∧ ∃ i : Nat, ∃ y, (allB b)[i]? = some y ∧ ∃ x, (vals pre)[i]? = some x ∧ x ≠ y) ∨
      (c = .exit 2 ∧ (pre.length : Int) = most ∧ 1 ≤ pre.length ∧ pre.length ≤ N ∧ Rb b a cap most w B6 0 (B6 + 1) W ∧ W.cell? ⟨W3.heap.size, 0, none⟩ = some (.int .i64 (pre.length : Int)) ∧ W.frozen? ⟨W3.heap.size, 0, none⟩ = false))
    (OwnFrom.and (rb_own (by simp; omega) hR.lo hlo) (Own.from (fun s A B row hs hg hr => ⟨cell_kept hs.1 hg hr, (frozen_kept hs.1 hg hr).trans hs.2⟩) _))
    (fun c s A B row hs hg hr => by
      rcases hs with hs | ⟨e1, e3, e4, e5, e6, e7, e8⟩
      · exact .inl hs
      · exact .inr ⟨e1, e3, e4, e5, rb_own (by simp; omega) hR.lo hlo s A B row e6 hg hr, cell_kept e7 hg (fun r e => (hr r e).2), (frozen_kept e7 hg (fun r e => (hr r e).2)).trans e8⟩)
    ⟨hR.later (((Below.refl _ _).alloc (Nat.le_refl _) _).alloc (by simp) _), cell_alloc_l _ i0.1, frozen_alloc_l _ i0.1 i0.2⟩ ?assign0 ?body0 ?done0 ?stop0
  case assign0 =>
    intro l x W K hK
    gi_wp2
    simpa using hK
  case body0 =>
    rintro l pre ⟨x, hxl⟩ W ⟨hR', hci, hfi⟩ hlen
    have hlen2 : pre.length < N := by rw [← HNN.out]; exact hlen
    have hc3 := hR'.ab.c3
    have hc4 := hR'.ab.c4
    have hf4 := hR'.ab.f4
    have hc6 := hR'.ab.c6
    rw [HNN.out] at hc6
    have hct' := hR'.ct
    obtain ⟨g, rfl, hgl, hcell⟩ := hR'.ab.row pre.length (allB b)[pre.length] (List.getElem?_eq_getElem hlen)
    have HI : Hid ((allB b)[pre.length]? = some (allB b)[pre.length]) := List.getElem?_eq_getElem hlen
    generalize (allB b)[pre.length] = y at hcell HI
    unfold strV at hcell
    have hp2 : ((pre ++ [(⟨x, hxl⟩ : Sh)]).length : Int) = (pre.length : Int) + 1 := by simp
    have fin : Rb b (some ⟨g, 0, none⟩) cap most w B6 0 (B6 + 1) (W.setCell ⟨W3.heap.size, 0, none⟩ (.int .i64 ((pre.length : Int) + 1))) ∧ (W.setCell ⟨W3.heap.size, 0, none⟩ (.int .i64 ((pre.length : Int) + 1))).cell? ⟨W3.heap.size, 0, none⟩ = some (.int .i64 ((pre ++ [(⟨x, hxl⟩ : Sh)]).length : Int)) ∧ (W.setCell ⟨W3.heap.size, 0, none⟩ (.int .i64 ((pre.length : Int) + 1))).frozen? ⟨W3.heap.size, 0, none⟩ = false := by
      refine ⟨hR'.set (by omega) _, ?_, ?_⟩
      · rw [hp2]; exact World.cell?_setCell_same' _ _ _ (by rw [hci]; rfl)
      · rw [World.frozen?_setCell]; exact hfi
    have FIN := Lib.hid fin; clear fin hp2
    have hne1 : W.cell? ⟨(B6 + 1), 0, none⟩ = (W.setCell ⟨W3.heap.size, 0, none⟩ (.int .i64 ((pre.length : Int) + 1))).cell? ⟨(B6 + 1), 0, none⟩ := (World.cell?_setCell_other _ _ _ _ (by intro e; have := congrArg Addr.block e; simp only at this; omega)).symm
    have hd1 := hne1.symm.trans hct'
    have hne3 : (W.setCell ⟨W3.heap.size, 0, none⟩ (.int .i64 ((pre.length : Int) + 1))).cell? ⟨w.heap.size, 0, none⟩ = some (.int .i64 most) := (World.cell?_setCell_other _ _ _ _ (by intro e; have := congrArg Addr.block e; simp only at this; omega)).trans hc3
    clear hne1
    by_cases hxy : x = y
    · have q1 : (y == x) = true := by rw [hxy]; simp
      clear hxy
      by_cases hm : ((pre.length : Int) + 1) = most
      · have q2 : ((pre.length : Int) + 1 == most) = true := by simpa using hm
        have HM := Lib.hid hm; clear hm
        gi_wp2
        exact ⟨KeepsOthers.setCell _ _ _, .inr ⟨rfl, by rw [← HM.out]; simp, by simp, by simp; omega, FIN.out⟩⟩
      · have q2 : ((pre.length : Int) + 1 == most) = false := by simpa using hm
        clear hm
        gi_wp2
        exact ⟨KeepsOthers.setCell _ _ _, trivial, FIN.out⟩
    · have q1 : (y == x) = false := by simpa using fun e => hxy e.symm
      have HX := Lib.hid hxy; clear hxy
      gi_wp2
      exact ⟨KeepsOthers.setCell _ _ _, .inl ⟨rfl, pre.length, y, HI.out, x, by rw [vals_snoc, List.getElem?_append_right (by rw [vals_len]; exact Nat.le_refl _), vals_len]; simp, HX.out⟩⟩
  case done0 =>
    rintro D ys W hD hS ⟨hR', hci, hfi⟩ hK
    have hys : ys.length = N := by rw [← HNN.out, ← hS, vals_len]
    rw [hys] at hci
    clear hys hS
    have hc3 := hR'.ab.c3
    have hc6 := hR'.ab.c6
    rw [HNN.out] at hc6
    have hct' := hR'.ct
    have hft' := hR'.ft
    have hq : ((N : Int) == N) = true := by simp
    have HD := Lib.hid hD; clear hD
    have hcase : decide (most < 1) = true ∨ (decide (most < 1) = false ∧ decide ((N : Int) < most) = true) ∨ (decide (most < 1) = false ∧ decide ((N : Int) < most) = false) := by
      cases decide (most < 1) <;> cases decide ((N : Int) < most) <;> simp
    rcases hcase with hm1 | ⟨hm1, hm2⟩ | ⟨hm1, hm2⟩
    all_goals
      gi_wp2
      have hDlt : D < W.heap.size := (Array.getElem?_eq_some_iff.1 hK).1
      have hDw : w.heap.size ≤ D := by have := HD.out; simp at this; omega
      have hR5 := hR'.next1 1
      have hK5 : (W.alloc (.cells #[.int .i64 1] 3)).heap[D]? = some (.deferred (some [])) := (Below.heap_alloc W _ D hDlt).trans hK
      have hsz5 : W.heap.size + 1 ≤ (W.alloc (.cells #[.int .i64 1] 3)).heap.size := by simp
      clear hct hft hct' hft' hR hc3 hc6 hci hfi hR' hK i0 s0 sz0 lo0 HD
      generalize W.alloc (.cells #[.int .i64 1] 3) = W5 at hR5 hK5 hsz5 ⊢
      generalize W.heap.size = Bt at hR5 hsz5 hDlt ⊢
      rw [roundsIn_succ]
      have hct5 := hR5.ct
      have hft5 := hR5.ft
      gi_wp2
      refine ⟨trivial, ?_⟩
      refine (callsIn_wide (n := n - 1) |>.2 (all_any _ _)).mono ?_
      rintro e w' ⟨rfl, rfl⟩
      gi_wp2
      have i1 := cell_new_l W5 (.int .i64 0) 3
      have s1 := cell_new_l (W5.alloc (.cells #[.int .i64 0] 3)) (.string ⟨b.toArray⟩) 9
      rw [World.size_alloc] at s1
      have sz1 := hR5.sz
      have lo1 := hR5.lo
      have hD5 : D < W5.heap.size := by omega
      refine range_one h1 (gf := 28) (lb := #[.pointer (some ⟨W5.heap.size + 1, 0, none⟩)]) rfl (enters_of Tryd.func28 (by kernel_rfl) rfl) (p := 25) (q := 10) (enc := fun x : Sh => .string ⟨x.1.toArray⟩)
        (all_stops (n - 1) (by omega) (W5.heap.size + 1) b (by unfold maxLen; omega) _ (by simp) s1.1)
        (fun pre W => (Rb b a cap most w B6 1 Bt W ∧ W.cell? ⟨W5.heap.size, 0, none⟩ = some (.int .i64 (pre.length : Int)) ∧ W.frozen? ⟨W5.heap.size, 0, none⟩ = false) ∧ W.heap[D]? = some (.deferred (some [])))
        (fun (c : Code) (pre : List Sh) (W : World) => c = .ret ∧ ∃ i : Nat, ∃ y, (allB b)[i]? = some y ∧ ∃ x, (vals pre)[i]? = some x ∧ x ≠ y)
        (OwnFrom.and (OwnFrom.and (rb_own (by simp; omega) hR5.lo hlo) (Own.from (fun s A B row hs hg hr => ⟨cell_kept hs.1 hg hr, (frozen_kept hs.1 hg hr).trans hs.2⟩) _)) (held_own (by simp; omega)))
        (fun c s A B row hs hg hr => hs)
        ⟨⟨hR5.later (((Below.refl _ _).alloc (Nat.le_refl _) _).alloc (by simp) _), cell_alloc_l _ i1.1, frozen_alloc_l _ i1.1 i1.2⟩, (Below.heap_alloc _ _ D (by simp; omega)).trans ((Below.heap_alloc _ _ D hD5).trans hK5)⟩ ?assign1 ?body1 ?done1 ?stop1
      case assign1 =>
        intro l x W K hK
        gi_wp2
        simpa using hK
      case body1 =>
        rintro l pre ⟨x, hxl⟩ W ⟨⟨hR', hci, hfi⟩, hKD⟩ hlen
        have hlen2 : pre.length < N := by rw [← HNN.out]; exact hlen
        have hc3 := hR'.ab.c3
        have hc4 := hR'.ab.c4
        have hf4 := hR'.ab.f4
        have hc6 := hR'.ab.c6
        rw [HNN.out] at hc6
        have hct' := hR'.ct
        obtain ⟨g, rfl, hgl, hcell⟩ := hR'.ab.row pre.length (allB b)[pre.length] (List.getElem?_eq_getElem hlen)
        have HI : Hid ((allB b)[pre.length]? = some (allB b)[pre.length]) := List.getElem?_eq_getElem hlen
        generalize (allB b)[pre.length] = y at hcell HI
        unfold strV at hcell
        have hp2 : ((pre ++ [(⟨x, hxl⟩ : Sh)]).length : Int) = (pre.length : Int) + 1 := by simp
        have fin : (Rb b (some ⟨g, 0, none⟩) cap most w B6 1 Bt (W.setCell ⟨W5.heap.size, 0, none⟩ (.int .i64 ((pre.length : Int) + 1))) ∧ (W.setCell ⟨W5.heap.size, 0, none⟩ (.int .i64 ((pre.length : Int) + 1))).cell? ⟨W5.heap.size, 0, none⟩ = some (.int .i64 ((pre ++ [(⟨x, hxl⟩ : Sh)]).length : Int)) ∧ (W.setCell ⟨W5.heap.size, 0, none⟩ (.int .i64 ((pre.length : Int) + 1))).frozen? ⟨W5.heap.size, 0, none⟩ = false) ∧
            (W.setCell ⟨W5.heap.size, 0, none⟩ (.int .i64 ((pre.length : Int) + 1))).heap[D]? = some (.deferred (some [])) := by
          refine ⟨⟨hR'.set (by omega) _, ?_, ?_⟩, (KeepsOthers.setCell W _ _).same D _ hKD rfl⟩
          · rw [hp2]; exact World.cell?_setCell_same' _ _ _ (by rw [hci]; rfl)
          · rw [World.frozen?_setCell]; exact hfi
        have FIN := Lib.hid fin; clear fin hp2 hKD
        have hne1 : W.cell? ⟨Bt, 0, none⟩ = (W.setCell ⟨W5.heap.size, 0, none⟩ (.int .i64 ((pre.length : Int) + 1))).cell? ⟨Bt, 0, none⟩ := (World.cell?_setCell_other _ _ _ _ (by intro e; have := congrArg Addr.block e; simp only at this; omega)).symm
        have hd1 := hne1.symm.trans hct'
        clear hne1
        by_cases hxy : x = y
        · have q1 : (y == x) = true := by rw [hxy]; simp
          clear hxy
          gi_wp2
          exact ⟨KeepsOthers.setCell _ _ _, trivial, FIN.out⟩
        · have q1 : (y == x) = false := by simpa using fun e => hxy e.symm
          have HX := Lib.hid hxy; clear hxy
          gi_wp2
          exact ⟨KeepsOthers.setCell _ _ _, rfl, pre.length, y, HI.out, x, by rw [vals_snoc, List.getElem?_append_right (by rw [vals_len]; exact Nat.le_refl _), vals_len]; simp, HX.out⟩
      case stop1 =>
        rintro D1 c pre W _ hpre ⟨rfl, i, y, hi, x, hx, hne⟩ hK1
        exact absurd (mismatch hpre hi hx) hne
      case done1 =>
        rintro D1 ys W hD1 hS ⟨⟨hR', hci, hfi⟩, hKD⟩ hK1
        have hys : ys.length = N := by rw [← HNN.out, ← hS, vals_len]
        rw [hys] at hci
        clear hys hS
        have hc6 := hR'.ab.c6
        rw [HNN.out] at hc6
        have hct' := hR'.ct
        have hq : ((N : Int) == N) = true := by simp
        have HD1 := Lib.hid hD1; clear hD1
        gi_wp2
        rw [roundsIn_succ]
        gi_wp2
        refine ⟨trivial, ?_⟩
        refine (callsIn_wide.2 (whole_any b (by unfold maxLen; omega) _)).mono ?_
        rintro e w6 ⟨rfl, hb6⟩
        have hB7 : Below W.heap.size W (W.alloc (.cells #[.int .i64 2] 3)) := (Below.refl _ W).alloc (Nat.le_refl _) _
        have hb7 : Below W.heap.size W w6 := hB7.trans (hb6.mono (by simp))
        have hA6 := hR'.ab.later hb7
        have hc46 := hA6.c4
        have hf46 := hA6.f4
        have hqz : (sizeB (allB b) == sizeB (allB b)) = true := by simp
        have HB6 := Lib.hid hb6; clear hb6
        gi_wp2
        have hD1lt : D1 < W.heap.size := (Array.getElem?_eq_some_iff.1 hK1).1
        have hDlt' : D < W.heap.size := (Array.getElem?_eq_some_iff.1 hKD).1
        have hne : D ≠ D1 := by have := HD1.out; simp at this; omega
        have hK16 : w6.heap[D1]? = some (.deferred (some [])) := (hb7.block D1 hD1lt).trans hK1
        have hK06 : w6.heap[D]? = some (.deferred (some [])) := (hb7.block D hDlt').trans hKD
        have hK1' := (KeepsOthers.setCell w6 ⟨w.heap.size + 1, 0, none⟩ (.bool true)).same D1 _ hK16 rfl
        have hK0' := (KeepsOthers.setCell w6 ⟨w.heap.size + 1, 0, none⟩ (.bool true)).same D _ hK06 rfl
        refine ⟨by simp, .inl ⟨_, _, rfl, run_takeDeferred hK1', ?_⟩⟩
        have hK0'' : ((w6.setCell ⟨w.heap.size + 1, 0, none⟩ (.bool true)).putObj D1 (.deferred none)).heap[D]? = some (.deferred (some [])) := (World.putObj_heap_other hne).trans hK0'
        refine ⟨by simp, .inl ⟨_, _, rfl, run_takeDeferred hK0'', ?_⟩⟩
        have hc4' := cell_kept (World.cell?_setCell_same' w6 ⟨w.heap.size + 1, 0, none⟩ (.bool true) (by rw [hc46]; rfl)) (grownBy_putObj' _ D1 (.deferred none)) (fun r e => by cases e; exact ⟨_, hK1', rfl⟩)
        have hc5 := cell_kept hc4' (grownBy_putObj' _ D (.deferred none)) (fun r e => by cases e; exact ⟨_, hK0'', rfl⟩)
        have hD1w : w.heap.size ≤ D1 := by have := HD1.out; simp at this; omega
        refine ⟨.bool true, ?_, rfl, ((hA6.bel.setCell (p := ⟨w.heap.size + 1, 0, none⟩) (by show w.heap.size ≤ w.heap.size + 1; omega) _).trans (belowK_b (w := w) (Nat.le_refl _) _ D1 _ _ hD1w hK1' rfl rfl)).trans (belowK_b (w := w) (Nat.le_refl _) _ D _ _ hDw hK0'' rfl rfl)⟩
        simp [results, Tryd.f6, go_sem, hc5]
  case stop0 =>
    rintro D c pre W hD hpre (⟨rfl, i, y, hi, x, hx, hne⟩ | ⟨rfl, hm, hp1, hp2, hR', hci, hfi⟩) hK
    · exact absurd (mismatch hpre hi hx) hne
    · have hm1 : decide (most < 1) = false := by simp; omega
      have hm2 : decide ((N : Int) < most) = false := by simp; omega
      have hc3 := hR'.ab.c3
      have hc6 := hR'.ab.c6
      rw [HNN.out] at hc6
      have hct' := hR'.ct
      have hft' := hR'.ft
      have HD := Lib.hid hD; clear hD
      clear hm
      gi_wp2
      have hDlt : D < W.heap.size := (Array.getElem?_eq_some_iff.1 hK).1
      have hDw : w.heap.size ≤ D := by have := HD.out; simp at this; omega
      have hR5 := hR'.next1 1
      have hK5 : (W.alloc (.cells #[.int .i64 1] 3)).heap[D]? = some (.deferred (some [])) := (Below.heap_alloc W _ D hDlt).trans hK
      have hsz5 : W.heap.size + 1 ≤ (W.alloc (.cells #[.int .i64 1] 3)).heap.size := by simp
      clear hct hft hct' hft' hR hc3 hc6 hci hfi hR' hK i0 s0 sz0 lo0 HD
      generalize W.alloc (.cells #[.int .i64 1] 3) = W5 at hR5 hK5 hsz5 ⊢
      generalize W.heap.size = Bt at hR5 hsz5 hDlt ⊢
      rw [roundsIn_succ]
      have hct5 := hR5.ct
      have hft5 := hR5.ft
      gi_wp2
      refine ⟨trivial, ?_⟩
      refine (callsIn_wide (n := n - 1) |>.2 (all_any _ _)).mono ?_
      rintro e w' ⟨rfl, rfl⟩
      gi_wp2
      have i1 := cell_new_l W5 (.int .i64 0) 3
      have s1 := cell_new_l (W5.alloc (.cells #[.int .i64 0] 3)) (.string ⟨b.toArray⟩) 9
      rw [World.size_alloc] at s1
      have sz1 := hR5.sz
      have lo1 := hR5.lo
      have hD5 : D < W5.heap.size := by omega
      refine range_one h1 (gf := 28) (lb := #[.pointer (some ⟨W5.heap.size + 1, 0, none⟩)]) rfl (enters_of Tryd.func28 (by kernel_rfl) rfl) (p := 25) (q := 10) (enc := fun x : Sh => .string ⟨x.1.toArray⟩)
        (all_stops (n - 1) (by omega) (W5.heap.size + 1) b (by unfold maxLen; omega) _ (by simp) s1.1)
        (fun pre W => (Rb b a cap most w B6 1 Bt W ∧ W.cell? ⟨W5.heap.size, 0, none⟩ = some (.int .i64 (pre.length : Int)) ∧ W.frozen? ⟨W5.heap.size, 0, none⟩ = false) ∧ W.heap[D]? = some (.deferred (some [])))
        (fun (c : Code) (pre : List Sh) (W : World) => c = .ret ∧ ∃ i : Nat, ∃ y, (allB b)[i]? = some y ∧ ∃ x, (vals pre)[i]? = some x ∧ x ≠ y)
        (OwnFrom.and (OwnFrom.and (rb_own (by simp; omega) hR5.lo hlo) (Own.from (fun s A B row hs hg hr => ⟨cell_kept hs.1 hg hr, (frozen_kept hs.1 hg hr).trans hs.2⟩) _)) (held_own (by simp; omega)))
        (fun c s A B row hs hg hr => hs)
        ⟨⟨hR5.later (((Below.refl _ _).alloc (Nat.le_refl _) _).alloc (by simp) _), cell_alloc_l _ i1.1, frozen_alloc_l _ i1.1 i1.2⟩, (Below.heap_alloc _ _ D (by simp; omega)).trans ((Below.heap_alloc _ _ D hD5).trans hK5)⟩ ?assign1 ?body1 ?done1 ?stop1
      case assign1 =>
        intro l x W K hK
        gi_wp2
        simpa using hK
      case body1 =>
        rintro l pre ⟨x, hxl⟩ W ⟨⟨hR', hci, hfi⟩, hKD⟩ hlen
        have hlen2 : pre.length < N := by rw [← HNN.out]; exact hlen
        have hc3 := hR'.ab.c3
        have hc4 := hR'.ab.c4
        have hf4 := hR'.ab.f4
        have hc6 := hR'.ab.c6
        rw [HNN.out] at hc6
        have hct' := hR'.ct
        obtain ⟨g, rfl, hgl, hcell⟩ := hR'.ab.row pre.length (allB b)[pre.length] (List.getElem?_eq_getElem hlen)
        have HI : Hid ((allB b)[pre.length]? = some (allB b)[pre.length]) := List.getElem?_eq_getElem hlen
        generalize (allB b)[pre.length] = y at hcell HI
        unfold strV at hcell
        have hp2 : ((pre ++ [(⟨x, hxl⟩ : Sh)]).length : Int) = (pre.length : Int) + 1 := by simp
        have fin : (Rb b (some ⟨g, 0, none⟩) cap most w B6 1 Bt (W.setCell ⟨W5.heap.size, 0, none⟩ (.int .i64 ((pre.length : Int) + 1))) ∧ (W.setCell ⟨W5.heap.size, 0, none⟩ (.int .i64 ((pre.length : Int) + 1))).cell? ⟨W5.heap.size, 0, none⟩ = some (.int .i64 ((pre ++ [(⟨x, hxl⟩ : Sh)]).length : Int)) ∧ (W.setCell ⟨W5.heap.size, 0, none⟩ (.int .i64 ((pre.length : Int) + 1))).frozen? ⟨W5.heap.size, 0, none⟩ = false) ∧
            (W.setCell ⟨W5.heap.size, 0, none⟩ (.int .i64 ((pre.length : Int) + 1))).heap[D]? = some (.deferred (some [])) := by
          refine ⟨⟨hR'.set (by omega) _, ?_, ?_⟩, (KeepsOthers.setCell W _ _).same D _ hKD rfl⟩
          · rw [hp2]; exact World.cell?_setCell_same' _ _ _ (by rw [hci]; rfl)
          · rw [World.frozen?_setCell]; exact hfi
        have FIN := Lib.hid fin; clear fin hp2 hKD
        have hne1 : W.cell? ⟨Bt, 0, none⟩ = (W.setCell ⟨W5.heap.size, 0, none⟩ (.int .i64 ((pre.length : Int) + 1))).cell? ⟨Bt, 0, none⟩ := (World.cell?_setCell_other _ _ _ _ (by intro e; have := congrArg Addr.block e; simp only at this; omega)).symm
        have hd1 := hne1.symm.trans hct'
        clear hne1
        by_cases hxy : x = y
        · have q1 : (y == x) = true := by rw [hxy]; simp
          clear hxy
          gi_wp2
          exact ⟨KeepsOthers.setCell _ _ _, trivial, FIN.out⟩
        · have q1 : (y == x) = false := by simpa using fun e => hxy e.symm
          have HX := Lib.hid hxy; clear hxy
          gi_wp2
          exact ⟨KeepsOthers.setCell _ _ _, rfl, pre.length, y, HI.out, x, by rw [vals_snoc, List.getElem?_append_right (by rw [vals_len]; exact Nat.le_refl _), vals_len]; simp, HX.out⟩
      case stop1 =>
        rintro D1 c pre W _ hpre ⟨rfl, i, y, hi, x, hx, hne⟩ hK1
        exact absurd (mismatch hpre hi hx) hne
      case done1 =>
        rintro D1 ys W hD1 hS ⟨⟨hR', hci, hfi⟩, hKD⟩ hK1
        have hys : ys.length = N := by rw [← HNN.out, ← hS, vals_len]
        rw [hys] at hci
        clear hys hS
        have hc6 := hR'.ab.c6
        rw [HNN.out] at hc6
        have hct' := hR'.ct
        have hq : ((N : Int) == N) = true := by simp
        have HD1 := Lib.hid hD1; clear hD1
        gi_wp2
        rw [roundsIn_succ]
        gi_wp2
        refine ⟨trivial, ?_⟩
        refine (callsIn_wide.2 (whole_any b (by unfold maxLen; omega) _)).mono ?_
        rintro e w6 ⟨rfl, hb6⟩
        have hB7 : Below W.heap.size W (W.alloc (.cells #[.int .i64 2] 3)) := (Below.refl _ W).alloc (Nat.le_refl _) _
        have hb7 : Below W.heap.size W w6 := hB7.trans (hb6.mono (by simp))
        have hA6 := hR'.ab.later hb7
        have hc46 := hA6.c4
        have hf46 := hA6.f4
        have hqz : (sizeB (allB b) == sizeB (allB b)) = true := by simp
        have HB6 := Lib.hid hb6; clear hb6
        gi_wp2
        have hD1lt : D1 < W.heap.size := (Array.getElem?_eq_some_iff.1 hK1).1
        have hDlt' : D < W.heap.size := (Array.getElem?_eq_some_iff.1 hKD).1
        have hne : D ≠ D1 := by have := HD1.out; simp at this; omega
        have hK16 : w6.heap[D1]? = some (.deferred (some [])) := (hb7.block D1 hD1lt).trans hK1
        have hK06 : w6.heap[D]? = some (.deferred (some [])) := (hb7.block D hDlt').trans hKD
        have hK1' := (KeepsOthers.setCell w6 ⟨w.heap.size + 1, 0, none⟩ (.bool true)).same D1 _ hK16 rfl
        have hK0' := (KeepsOthers.setCell w6 ⟨w.heap.size + 1, 0, none⟩ (.bool true)).same D _ hK06 rfl
        refine ⟨by simp, .inl ⟨_, _, rfl, run_takeDeferred hK1', ?_⟩⟩
        have hK0'' : ((w6.setCell ⟨w.heap.size + 1, 0, none⟩ (.bool true)).putObj D1 (.deferred none)).heap[D]? = some (.deferred (some [])) := (World.putObj_heap_other hne).trans hK0'
        refine ⟨by simp, .inl ⟨_, _, rfl, run_takeDeferred hK0'', ?_⟩⟩
        have hc4' := cell_kept (World.cell?_setCell_same' w6 ⟨w.heap.size + 1, 0, none⟩ (.bool true) (by rw [hc46]; rfl)) (grownBy_putObj' _ D1 (.deferred none)) (fun r e => by cases e; exact ⟨_, hK1', rfl⟩)
        have hc5 := cell_kept hc4' (grownBy_putObj' _ D (.deferred none)) (fun r e => by cases e; exact ⟨_, hK0'', rfl⟩)
        have hD1w : w.heap.size ≤ D1 := by have := HD1.out; simp at this; omega
        refine ⟨.bool true, ?_, rfl, ((hA6.bel.setCell (p := ⟨w.heap.size + 1, 0, none⟩) (by show w.heap.size ≤ w.heap.size + 1; omega) _).trans (belowK_b (w := w) (Nat.le_refl _) _ D1 _ _ hD1w hK1' rfl rfl)).trans (belowK_b (w := w) (Nat.le_refl _) _ D _ _ hDw hK0'' rfl rfl)⟩
        simp [results, Tryd.f6, go_sem, hc5]
/-- SealAll, where the bytes are not too many. -/
theorem law_SealAll (s : ByteArray) (most : Int) (hs : s.size ≤ 2097152) (_hm : (Lit.int .i64 most).wf = true) (w : World) (hT : Tz w) : Calls Tryd.prog 6 #[.string s, .int .i64 most] w fun e w' => e = .returned (.bool true) ∧ Below w.heap.size w w' := by
  obtain ⟨⟨l⟩⟩ := s
  exact callsIn_wide.1 (all_in 5 (Nat.le_refl _) l hs most w hT)
end Go.Proofs.YtlpdoebmgfcfdaaDoor
