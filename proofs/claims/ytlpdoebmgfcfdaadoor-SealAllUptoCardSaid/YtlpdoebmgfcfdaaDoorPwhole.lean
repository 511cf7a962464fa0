/- seal.Whole: how many bytes the sealed texts have. -/
import Derived.Test.YtlpdoebmgfcfdaaDoorPall
import Derived.RangeFuncFrom
namespace Go.Proofs.YtlpdoebmgfcfdaaDoor
open Go.RowKit Go.Shelf
attribute [local go_sem] Oper.semAt_some

theorem wrap64_bd (n : Int) : -9223372036854775808 ≤ wrap64 n ∧ wrap64 n ≤ 9223372036854775807 := by unfold wrap64; omega
theorem wrap64_step (a c : Int) : wrap64 (wrap64 a + c) = wrap64 (a + c) := by unfold wrap64; omega
set_option maxRecDepth 100000 in
set_option maxHeartbeats 2000000 in
theorem whole_in (n : Nat) (hn : 4 ≤ n) (b : List UInt8) (hs : b.length ≤ maxLen) (w : World) :
    CallsIn Fence.wide n Tryd.prog 20 #[.string ⟨b.toArray⟩] w fun e w' => e = .returned (.int .i64 (sizeB (allB b))) ∧ Below w.heap.size w w' := by
  have h1 : 1 ≤ n := by omega
  refine callsIn_of_wp_marks Tryd.func20 rfl trivial ?_ rfl
  simp only [Tryd.ntmps20, List.size_toArray, List.length_cons, List.length_nil, Nat.reduceAdd, Nat.reduceSub, Array.replicate_succ, Array.replicate_zero, List.push_toArray, List.append_toArray, List.nil_append, List.cons_append]
  gi_wp2_with (refine ⟨trivial, ?_⟩; gi_at_call 19; refine (callsIn_wide (n := n - 1) |>.2 (all_any _ _)).mono ?_; rintro e w' ⟨rfl, rfl⟩)
  have hs0 := cell_new_l w (.int .i64 0) 3
  have hb0 := cell_new_l (w.alloc (.cells #[.int .i64 0] 3)) (.string ⟨b.toArray⟩) 9
  rw [World.size_alloc] at hb0
  have hB0 : Below w.heap.size w ((w.alloc (.cells #[.int .i64 0] 3)).alloc (.cells #[.string ⟨b.toArray⟩] 9)) := ((Below.refl _ w).alloc (Nat.le_refl _) _).alloc (by simp) _
  refine wpIn_rangeFunc_ownF rfl h1 (gf := 28) (lb := #[.pointer (some ⟨w.heap.size + 1, 0, none⟩)]) rfl trivial (enters_of Tryd.func28 (by kernel_rfl) rfl)
    (all_stops (n - 1) (by omega) (w.heap.size + 1) b hs _ (by simp) hb0.1) (fun _ _ => trivial) (fun _ _ _ _ _ _ _ _ => trivial) (Below.refl _ _) (fun _ => rfl)
    (fun pre W => (W.cell? ⟨w.heap.size, 0, none⟩ = some (.int .i64 (wrap64 (sizeB (vals pre)))) ∧ W.frozen? ⟨w.heap.size, 0, none⟩ = false) ∧ Below w.heap.size w W)
    (fun _ _ _ => False)
    (OwnFrom.and (Own.from (fun s A B row hs hg hr => ⟨cell_kept hs.1 hg hr, (frozen_kept hs.1 hg hr).trans hs.2⟩) _) (ownFrom_below (Nat.le_refl _) (by simp; omega)))
    (fun _ _ _ _ _ hs _ _ => hs)
    ⟨⟨by rw [show wrap64 (sizeB (vals [])) = 0 by simp [sizeB, vals, wrap64]]; exact cell_alloc_l _ hs0.1, frozen_alloc_l _ hs0.1 hs0.2⟩, hB0⟩
    (fun x => { tmps := #[.string ⟨b.toArray⟩, undef, .int .i64 0, .pointer (some ⟨w.heap.size, 0, none⟩), .string ⟨x.1.toArray⟩, .string ⟨b.toArray⟩, .func (.func 28) #[] #[.pointer (some ⟨w.heap.size + 1, 0, none⟩)], .string ⟨x.1.toArray⟩, undef, undef, undef, undef, undef, undef, undef, undef, undef, undef, undef], defers := [] }) ?assign ?body ?done ?stop
  case assign =>
    intro l x W K hK
    gi_wp2
    exact hK
  case body =>
    rintro l pre ⟨x, hxl⟩ W ⟨⟨hc, hf⟩, hB⟩ _
    have hmx : Tryd.prog.follows .mixedOrders = true := by kernel_rfl
    obtain ⟨T, hT⟩ : ∃ T : Int, T = wrap64 (sizeB (vals pre)) := ⟨_, rfl⟩
    have hTb := wrap64_bd (sizeB (vals pre))
    rw [← hT] at hc hTb
    obtain ⟨T1, T2⟩ := hTb
    obtain ⟨z, hz⟩ : ∃ z : Int, z = szOf x.length := ⟨_, rfl⟩
    have hzb := szOf_bd x.length
    rw [← hz] at hzb
    obtain ⟨z1, z2⟩ := hzb
    have HT := Lib.hid hT; clear hT
    have HZ := Lib.hid hz; clear hz
    have hd : 1 ≤ n - 1 - 1 := by omega
    have q0 : IntKind.u64.wrap (x.length : Int) = x.length := by rw [IntKind.wrap_u64]; omega
    have q1 : IntKind.i64.wrap (z + x.length) = z + x.length := IntWalk.i64_in _ ⟨by omega, by omega⟩
    have q2 : IntKind.i64.wrap (z + x.length + 4) = z + x.length + 4 := IntWalk.i64_in _ ⟨by omega, by omega⟩
    have q3 : IntKind.i64.wrap (T + (z + x.length + 4)) = wrap64 (T + (z + x.length + 4)) := IntWalk.i64_left _
    have fin : KeepsOthers W ((W.setCell ⟨w.heap.size, 0, none⟩ (.int .i64 (wrap64 (T + (z + x.length + 4))))).drew) ∧ True ∧
        ((((W.setCell ⟨w.heap.size, 0, none⟩ (.int .i64 (wrap64 (T + (z + x.length + 4))))).drew).cell? ⟨w.heap.size, 0, none⟩ = some (.int .i64 (wrap64 (sizeB (vals (pre ++ [⟨x, hxl⟩]))))) ∧ ((W.setCell ⟨w.heap.size, 0, none⟩ (.int .i64 (wrap64 (T + (z + x.length + 4))))).drew).frozen? ⟨w.heap.size, 0, none⟩ = false) ∧
          Below w.heap.size w ((W.setCell ⟨w.heap.size, 0, none⟩ (.int .i64 (wrap64 (T + (z + x.length + 4))))).drew)) := by
      refine ⟨(KeepsOthers.setCell _ _ _).trans (KeepsOthers.drew _), trivial, ⟨?_, ?_⟩, (hB.setCell (p := ⟨w.heap.size, 0, none⟩) (Nat.le_refl _) _).drew⟩
      · have ev : wrap64 (T + (z + x.length + 4)) = wrap64 (sizeB (vals (pre ++ [⟨x, hxl⟩]))) := by rw [vals_snoc, sizeB_snoc, HT.out, wrap64_step, HZ.out]
        rw [cell_drew_own, ← ev]
        exact World.cell?_setCell_same' _ _ _ (by rw [hc]; rfl)
      · rw [frozen_drew_own, World.frozen?_setCell]; exact hf
    have FIN := Lib.hid fin; clear fin
    gi_wp2
    gi_region_with_o (refine ⟨trivial, ?_⟩; gi_at_call 22; (try simp only [q0]); refine (CallsIn.inRound l (callsIn_wide.2 (size_any _ _ (by omega)))).mono ?_; rintro e w' ⟨rfl, rfl⟩; rw [← HZ.out])
    all_goals (gi_wp2; exact FIN.out)
  case done =>
    rintro D ys W hD hS ⟨⟨hc, _⟩, hB⟩ hK
    gi_wp2
    refine ⟨by simp, .inl ⟨_, _, rfl, run_takeDeferred hK, ?_⟩⟩
    have hsz := sizeB_all b.length b (Nat.le_refl _)
    have hnn := sizeB_nonneg (allB b)
    unfold maxLen at hs
    rw [IntWalk.wrap64_in _ ⟨by omega, by omega⟩]
    exact ⟨_, results_tmp rfl _ _ _, rfl, hB.trans (belowK_b (w := w) (Nat.le_refl _) W D _ _ (by simp at hD; omega) hK rfl rfl)⟩
  case stop =>
    rintro D c pre W _ _ h _
    exact h.elim
/-- seal.Whole, every bytes. -/
theorem whole_any (b : List UInt8) (hs : b.length ≤ maxLen) (w : World) :
    Calls Tryd.prog 20 #[.string ⟨b.toArray⟩] w fun e w' => e = .returned (.int .i64 (sizeB (allB b))) ∧ Below w.heap.size w w' :=
  callsIn_wide.1 (whole_in 4 (Nat.le_refl _) b hs w)
theorem whole_s (s : ByteArray) (w : World) (hs : s.size ≤ maxLen) :
    Calls Tryd.prog 20 #[.string s] w fun e w' => e = .returned (.int .i64 (sizeB (allB s.data.toList))) ∧ Below w.heap.size w w' := by
  obtain ⟨⟨l⟩⟩ := s
  exact whole_any l hs w
end Go.Proofs.YtlpdoebmgfcfdaaDoor
