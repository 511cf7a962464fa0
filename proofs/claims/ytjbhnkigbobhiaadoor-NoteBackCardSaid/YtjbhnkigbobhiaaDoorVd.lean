/- The program's Read: the notes of bytes. -/
import Derived.Test.YtjbhnkigbobhiaaDoorVc
import Derived.RangeFuncNested
import Derived.RangeFuncBox
namespace Go.Proofs.YtjbhnkigbobhiaaDoor
open Go.RowKit Go.Shelf
attribute [local go_sem] Oper.semAt_some

/-- What the caller's boxes hold when pre has come. -/
def RdI (w : World) (pre : List (Nt × Int)) (W : World) : Prop :=
  (∃ v, Boxed W w.heap.size 38 v ∧ W.ownsRow (w.heap.size + 3) 24 5 v pre.length (ntsCells (pre.map (·.1))) ∧ True) ∧ Boxed W (w.heap.size + 1) 3 (.int .i64 (endE 0 pre)) ∧ Below w.heap.size w W ∧ w.heap.size + 2 < W.heap.size
/-- The loop's variables behind the assignment. -/
def RdA (w : World) (b : List UInt8) (x : Nt × Int) (a : Act) (W : World) : Prop :=
  ∃ Bx, w.heap.size + 2 < Bx ∧ W.heap[Bx]? = some (.cells #[.int .i64 x.1.k, .int .u64 x.1.i, .int .u64 x.1.t, .int .u64 x.1.v, .string x.1.d] 24 (0, 0)) ∧
    a = { tmps := #[.string ⟨b.toArray⟩, undef, .slice none 0 0, .int .i64 0, .pointer (some ⟨w.heap.size, 0, none⟩), .pointer (some ⟨w.heap.size + 1, 0, none⟩), .pointer (some ⟨Bx, 0, none⟩), .int .i64 x.2, .string ⟨b.toArray⟩, .func (.func 57) #[] #[.pointer (some ⟨w.heap.size + 1 + 1, 0, none⟩)], x.1.val, .int .i64 x.2, undef, undef, undef, undef, undef, undef, undef], defers := [] }
theorem rdI_own (w : World) (B : Nat) (hB : w.heap.size ≤ B) : OwnFrom B (RdI w) :=
  OwnFrom.and (Own.from (holdsRow_own (w.heap.size + 3) w.heap.size 38 24 5 (fun pre : List (Nt × Int) => pre.length) (fun pre => ntsCells (pre.map (·.1))) (fun _ _ => True)) _)
    (OwnFrom.and (Own.from (boxed_own (w.heap.size + 1) 3 (fun pre : List (Nt × Int) => .int .i64 (endE 0 pre))) _) (OwnFrom.and (ownFrom_below (Nat.le_refl _) hB) (fun _ _ _ _ hs hg _ => Nat.lt_of_lt_of_le hs hg.size)))
theorem rdA_own (w : World) (b : List UInt8) (B : Nat) (x : Nt × Int) (a : Act) : OwnFrom B (fun (_ : Unit) W => RdA w b x a W) := by
  rintro s W W' row ⟨Bx, h1, h2, h3⟩ hg hr
  refine ⟨Bx, h1, (hg.block Bx (lt_of_row h2) (fun e => ?_)).trans h2, h3⟩
  obtain ⟨_, o, ho, hc⟩ := hr Bx e.symm
  rw [h2] at ho; cases ho; cases hc
theorem kq_alloc (q : Nat) (W : World) (o : Obj) : Kq q W (W.alloc o) := fun _ hu => cell_alloc_l o hu
set_option maxRecDepth 100000 in
set_option maxHeartbeats 4000000 in
theorem read_in (n : Nat) (hn : 4 ≤ n) (b : List UInt8) (hb : b.length ≤ 2097152) (w : World) :
    CallsIn Fence.wide n Tryd.prog 18 #[.string ⟨b.toArray⟩] w (ReadP w b) := by
  have h1 : 1 ≤ n := by omega
  obtain ⟨i0, hi, hz0, hz1, hz2⟩ := info_parts infoNote
  refine callsIn_of_wp_marks Tryd.func18 rfl trivial ?_ rfl
  simp only [Tryd.ntmps18, List.size_toArray, List.length_cons, List.length_nil, Nat.reduceAdd, Nat.reduceSub, Array.replicate_succ, Array.replicate_zero, List.push_toArray, List.append_toArray, List.nil_append, List.cons_append]
  gi_wp2_with (refine ⟨trivial, ?_⟩; gi_at_call 38; refine (callsIn_wide (n := n - 1) |>.2 (leading_any _ _)).mono ?_; rintro e w' ⟨rfl, rfl⟩)
  have hs0 := Boxed.new w 38 (.slice none 0 0)
  have hs1 := Boxed.new (w.alloc (.cells #[.slice none 0 0] 38)) 3 (.int .i64 0)
  rw [World.size_alloc] at hs1
  have hq0 := cell_new_l ((w.alloc (.cells #[.slice none 0 0] 38)).alloc (.cells #[.int .i64 0] 3)) (.string ⟨b.toArray⟩) 9
  rw [World.size_alloc, World.size_alloc] at hq0
  have hB0 : Below w.heap.size w (((w.alloc (.cells #[.slice none 0 0] 38)).alloc (.cells #[.int .i64 0] 3)).alloc (.cells #[.string ⟨b.toArray⟩] 9)) := (((Below.refl _ w).alloc (Nat.le_refl _) _).alloc (by simp) _).alloc (by simp; omega) _
  refine wpIn_rangeFunc_ownH rfl h1 (gf := 57) (lb := #[.pointer (some ⟨w.heap.size + 1 + 1, 0, none⟩)]) rfl trivial (enters_of Tryd.func57 (by kernel_rfl) rfl)
    (lead_stops (n - 1) (by omega) (w.heap.size + 1 + 1) b (by omega) _ (by simp) hq0.1) (fun h k u hu => k u (h u hu)) (fun W l o o' _ ho hc _ u hu => cell_kept hu (grownBy_putObj' W l o') (fun r e => by cases e; exact ⟨o, ho, hc⟩)) (Below.refl _ _) (fun _ => rfl)
    (RdI w) (fun _ _ _ => False) (rdI_own w _ (by simp; omega)) (fun _ _ _ _ _ hs _ _ => hs)
    ⟨⟨_, (hs0.alloc _).alloc _, World.ownsRow_nil _ _ _ _, trivial⟩, hs1.alloc _, hB0, by simp⟩ (RdA w b) (rdA_own w b _) ?assign ?body ?done ?stop
  case assign =>
    rintro l pre ⟨⟨k, i, t, v, d⟩, e⟩ W K hI hK
    gi_wp2
    obtain ⟨⟨u, h1, h2, -⟩, h3, h4, h5⟩ := hI
    exact hK _ _ ((KeepsOthers.alloc _ _).from _) (kq_alloc _ _ _) ⟨⟨u, h1.alloc _, h2.alloc _, trivial⟩, h3.alloc _, h4.alloc (by omega) _, by simp; omega⟩ ⟨W.heap.size, h5, heap_alloc_new W _, rfl⟩
  case body =>
    rintro l pre ⟨⟨k, i, t, v, d⟩, e⟩ a' W hl hr ⟨⟨u, hu, hrow, -⟩, hE, hB, hsz⟩ ⟨Bx, hBx, hbox, rfl⟩ hN
    have hpl : (rdEB b.length b).length ≤ 2097152 := by
      have h := congrArg List.length (rdE_fst b.length b.length b)
      rw [List.length_map] at h
      have := rd_less b b.length
      unfold rdEB; omega
    have c0 : W.cell? ⟨Bx, 0, none⟩ = some (.int .i64 k) := by rw [cell_of_row W Bx 0 _ _ _ hbox]; rfl
    have c1 : W.cell? ⟨Bx, 1, none⟩ = some (.int .u64 i) := by rw [cell_of_row W Bx 1 _ _ _ hbox]; rfl
    have c2 : W.cell? ⟨Bx, 2, none⟩ = some (.int .u64 t) := by rw [cell_of_row W Bx 2 _ _ _ hbox]; rfl
    have c3 : W.cell? ⟨Bx, 3, none⟩ = some (.int .u64 v) := by rw [cell_of_row W Bx 3 _ _ _ hbox]; rfl
    have c4 : W.cell? ⟨Bx, 4, none⟩ = some (.string d) := by rw [cell_of_row W Bx 4 _ _ _ hbox]; rfl
    have hc := hu.cell
    gi_wp2_with (gi_at_builtin; refine wpListIn_append_own _ rfl _ _ 38 rfl (w.heap.size + 3) 24 i0 (.agg #[.int .i64 0, .int .u64 0, .int .u64 0, .int .u64 0, .string ⟨#[]⟩]) 5 48 Tryd.underlying38 hi hz0 hz1 hz2 rfl (by decide) _ _ _ rfl (hrow.alloc _) ⟨W.heap.size, 0, none⟩ 1 1 (ntCells ⟨k, i, t, v, d⟩) rfl rfl ?d1 ?d2 ?d3 ?d4 ?d5 ?_)
    case d1 => intro j u hj; exact hj
    case d2 => intro u hu; simp only [ntCells, List.mem_cons, List.not_mem_nil, or_false] at hu; rcases hu with rfl | rfl | rfl | rfl | rfl <;> rfl
    case d3 => unfold maxLen; omega
    case d4 => omega
    case d5 => omega
    intro v' w1 hown' hgrow _
    obtain ⟨g, cap, rfl⟩ := ownsRow_succ hown'
    have hrow0 := owns_base hrow (show w.heap.size ≤ w.heap.size + 3 by omega)
    have hown0 := owns_base hown' (show w.heap.size ≤ w.heap.size + 3 by omega)
    obtain ⟨bx1, bx2, row2, kp, bel⟩ := hu.appended (by decide) hrow0 (by omega) (Nat.le_refl _) hown0 hgrow
    have e1 : Boxed w1 (w.heap.size + 1) 3 (.int .i64 (endE 0 pre)) := (hE.alloc _).kept hgrow (hE.not_row (by decide) hrow)
    have e2 := e1.other (B' := w.heap.size) (by omega) (.slice (some ⟨g, 0, none⟩) (pre.length + 1) cap)
    have hq : Kq (w.heap.size + 1 + 1) W ((w1.setCell ⟨w.heap.size, 0, none⟩ (.slice (some ⟨g, 0, none⟩) (pre.length + 1) cap)).setCell ⟨w.heap.size + 1, 0, none⟩ (.int .i64 e)) := fun y hy => by
      have k1 := cell_alloc_l (.cells (ntCells ⟨k, i, t, v, d⟩).toArray 24) hy
      have k2 : w1.cell? ⟨w.heap.size + 1 + 1, 0, none⟩ = some y := hgrow.cell k1 (fun e' => by
        have h3 := (hrow.lt (w.heap.size + 1 + 1) e'.symm).1
        omega)
      exact (World.cell?_setCell_far _ ⟨w.heap.size + 1, 0, none⟩ ⟨w.heap.size + 1 + 1, 0, none⟩ _ (by simp)).trans ((World.cell?_setCell_far _ ⟨w.heap.size, 0, none⟩ ⟨w.heap.size + 1 + 1, 0, none⟩ _ (by simp; omega)).trans k2)
    have hrow9 : ((w1.setCell ⟨w.heap.size, 0, none⟩ (.slice (some ⟨g, 0, none⟩) (pre.length + 1) cap)).setCell ⟨w.heap.size + 1, 0, none⟩ (.int .i64 e)).ownsRow (w.heap.size + 3) 24 5 (.slice (some ⟨g, 0, none⟩) (pre.length + 1) cap) (pre ++ [((⟨k, i, t, v, d⟩ : Nt), e)]).length (ntsCells ((pre ++ [((⟨k, i, t, v, d⟩ : Nt), e)]).map (·.1))) := by
      have hg := (hown'.lt g rfl).1
      have h4 : w1.ownsRow (w.heap.size + 3) 24 5 (.slice (some ⟨g, 0, none⟩) (pre.length + 1) cap) (pre ++ [((⟨k, i, t, v, d⟩ : Nt), e)]).length (ntsCells ((pre ++ [((⟨k, i, t, v, d⟩ : Nt), e)]).map (·.1))) := by
        rw [List.length_append, List.map_append]; simp only [List.map_cons, List.map_nil]; rw [ntsCells_snoc]; exact hown'
      exact (h4.kept (grownBy_setCell' w1 w.heap.size _) (.inr (by simp [Value.ownBlock]; omega))).kept (grownBy_setCell' _ (w.heap.size + 1) _) (.inr (by simp [Value.ownBlock]; omega))
    have fin : KeepsFrom ((((w.alloc (.cells #[.slice none 0 0] 38)).alloc (.cells #[.int .i64 0] 3)).alloc (.cells #[.string ⟨b.toArray⟩] 9))).heap.size W ((w1.setCell ⟨w.heap.size, 0, none⟩ (.slice (some ⟨g, 0, none⟩) (pre.length + 1) cap)).setCell ⟨w.heap.size + 1, 0, none⟩ (.int .i64 e)) ∧ Kq (w.heap.size + 1 + 1) W ((w1.setCell ⟨w.heap.size, 0, none⟩ (.slice (some ⟨g, 0, none⟩) (pre.length + 1) cap)).setCell ⟨w.heap.size + 1, 0, none⟩ (.int .i64 e)) ∧
        RdI w (pre ++ [(⟨k, i, t, v, d⟩, e)]) ((w1.setCell ⟨w.heap.size, 0, none⟩ (.slice (some ⟨g, 0, none⟩) (pre.length + 1) cap)).setCell ⟨w.heap.size + 1, 0, none⟩ (.int .i64 e)) := by
      refine ⟨(kp.trans (KeepsOthers.setCell _ _ _)).from _, hq, ⟨_, bx2.other (by omega) _, hrow9, trivial⟩, ?_, (hB.trans bel).setCell (by simp) _, ?_⟩
      · rw [endE_snoc]; exact e2.set _
      · have := hgrow.size; simp at this ⊢; omega
    have FIN := Lib.hid fin
    have s0 := bx1.cell
    have s1 := bx1.frozen
    have t0 := e2.cell
    have t1 := e2.frozen
    clear fin hq hrow9 hown' hgrow hrow hrow0 hown0 bx1 bx2 row2 kp bel e1 e2 hu hE hB hbox hc c0 c1 c2 c3 c4
    gi_wp2
    exact FIN.out
  case done =>
    rintro D ys W hD rfl ⟨⟨u, hu, hrow, -⟩, hE, hB, hsz⟩ hK
    have hlen : (rdEB b.length b).length = (rdB b).1.length := by
      have h := congrArg List.length (rdE_fst b.length b.length b)
      rw [List.length_map] at h; exact h
    have hmap : (rdEB b.length b).map (·.1) = (rdB b).1 := rdE_fst b.length b.length b
    have hend : endE 0 (rdEB b.length b) = (b.length : Int) - (rdB b).2.length := by
      have h := rdE_end b.length b.length b
      rwa [Int.sub_self] at h
    rw [hlen, hmap] at hrow
    rw [hend] at hE
    obtain ⟨z, hz⟩ : ∃ z : Int, (b.length : Int) - (rdB b).2.length = z := ⟨_, rfl⟩
    rw [hz] at hE
    have HZ := Lib.hid hz
    have c0 := hu.cell
    have c1 := hE.cell
    have hrow2 := owns_base hrow (show w.heap.size ≤ w.heap.size + 3 by omega)
    have HR := Lib.hid hrow2
    have HU := Lib.hid hu
    clear hlen hmap hend hz hrow hrow2 hE hu
    have hmx : Tryd.prog.follows .mixedOrders = true := by kernel_rfl
    gi_wp2
    gi_quiet (fail)
    gi_wp2
    refine ⟨by simp, .inl ⟨_, _, rfl, run_takeDeferred hK, ?_⟩⟩
    refine ⟨_, results_tmp2 rfl _ _ _, u, by rw [HZ.out]; rfl, ?_, ?_⟩
    · exact ownsRow_putObj (W := W.drewN _) HR.out _ hK rfl
    · exact (below_drewN hB _).trans (belowK_b (w := w) (Nat.le_refl _) (W.drewN _) D _ _ (by simp at hD; omega) hK rfl rfl)
  case stop =>
    rintro D c pre W _ _ h _
    exact h.elim
theorem pRead_any (b : List UInt8) (hb : b.length ≤ 2097152) (w : World) : Calls Tryd.prog 18 #[.string ⟨b.toArray⟩] w (ReadP w b) :=
  callsIn_wide.1 (read_in 4 (Nat.le_refl _) b hb w)
end Go.Proofs.YtjbhnkigbobhiaaDoor
