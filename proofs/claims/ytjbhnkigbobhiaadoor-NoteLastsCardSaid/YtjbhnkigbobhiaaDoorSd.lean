/- The reference of layer 4: Step: an entry more: where nothing happens: step_2c. -/
import Derived.Test.YtjbhnkigbobhiaaDoorSe
import Derived.Deep.RegionHeld3
import Derived.IntWalk
namespace Go.Proofs.YtjbhnkigbobhiaaDoor
open Go.RowKit

set_option maxRecDepth 100000 in
set_option maxHeartbeats 4000000 in
theorem step_2c (term vote base bt n c : Nat) (snap : ByteArray) (a : Option Addr) (L : List En) (hn : L.length = n) (hl : n ≤ 1024) (hbn : base + n ≤ 1099511627776) (w : World) (hE : Ents w a L) (i t v : Nat) (d : ByteArray) (h1 : i = base + n + 1) (h2 : n < 1024) (h3 : ¬ i ≤ 1099511627776) :
    Calls Tryd.prog 39 #[.agg #[.int .u64 term, .int .u64 vote, .int .u64 base, .int .u64 bt, .string snap, .slice a n c], .agg #[.int .i64 2, .int .u64 i, .int .u64 t, .int .u64 v, .string d]] w (StP w a (Sg.step ⟨term, vote, base, bt, snap, L⟩ ⟨2, i, t, v, d⟩)) := by
  have hf : ∀ w', Below w.heap.size w w' → StP w a (Sg.step ⟨term, vote, base, bt, snap, L⟩ ⟨2, i, t, v, d⟩) (.returned (.agg #[.int .u64 term, .int .u64 vote, .int .u64 base, .int .u64 bt, .string snap, .slice a n c])) w' := fun w' hb => by
    have e : Sg.step ⟨term, vote, base, bt, snap, L⟩ ⟨2, i, t, v, d⟩ = ⟨term, vote, base, bt, snap, L⟩ := by simp [Sg.step, hn, h3]
    rw [e]; exact ⟨a, c, by simp only; rw [hn], hE.later hb, hb, .inl rfl⟩
  have HF := Lib.hid hf; clear hf hE hn
  obtain ⟨q, hq⟩ : ∃ q, base + n = q := ⟨_, rfl⟩
  have hql : q ≤ 1099511627776 := by omega
  have g1 : ((i : Int) == (q : Int) + 1) = true := by simp; omega
  have g2 : (n : Int) < 1024 := by omega
  have g3 : ¬ (i : Int) ≤ 1099511627776 := by omega
  clear h1
  have e1 : IntKind.u64.wrap ((q : Int) + 1) = (q : Int) + 1 := IntWalk.u64_in _ (by omega)
  have HQ := Lib.hid hq
  go_enter Tryd.func39, Tryd.ntmps39
  go_wp2_with fail
  generalize hW : ((((w.alloc (.cells #[.int .u64 term, .int .u64 vote, .int .u64 base, .int .u64 bt, .string snap, .slice a n c] 36)).alloc (.cells #[.int .i64 2, .int .u64 i, .int .u64 t, .int .u64 v, .string d] 24)).alloc (.cells #[.int .u64 0, .int .u64 0, .int .u64 0, .int .u64 0, .string ⟨#[]⟩, .slice none 0 0] 36)).alloc (.cells #[.int .u64 base, .int .u64 bt, .string snap, .slice a n c] 34)) = W
  have b0 : W.cell? ⟨w.heap.size, 0, none⟩ = some (.int .u64 term) := by subst hW; simp [go_sem]
  have b1 : W.cell? ⟨w.heap.size, 1, none⟩ = some (.int .u64 vote) := by subst hW; simp [go_sem]
  have b2 : W.cell? ⟨w.heap.size, 2, none⟩ = some (.int .u64 base) := by subst hW; simp [go_sem]
  have b3 : W.cell? ⟨w.heap.size, 3, none⟩ = some (.int .u64 bt) := by subst hW; simp [go_sem]
  have b4 : W.cell? ⟨w.heap.size, 4, none⟩ = some (.string snap) := by subst hW; simp [go_sem]
  have b5 : W.cell? ⟨w.heap.size, 5, none⟩ = some (.slice a n c) := by subst hW; simp [go_sem]
  have m1 : W.cell? ⟨w.heap.size + 1, 1, none⟩ = some (.int .u64 i) := by subst hW; simp [go_sem]
  have m2 : W.cell? ⟨w.heap.size + 1, 2, none⟩ = some (.int .u64 t) := by subst hW; simp [go_sem]
  have m4 : W.cell? ⟨w.heap.size + 1, 4, none⟩ = some (.string d) := by subst hW; simp [go_sem]
  have r0 : W.cell? ⟨w.heap.size + 1 + 1, 0, none⟩ = some (.int .u64 0) := by subst hW; simp [go_sem]
  have r1 : W.cell? ⟨w.heap.size + 1 + 1, 1, none⟩ = some (.int .u64 0) := by subst hW; simp [go_sem]
  have r2 : W.cell? ⟨w.heap.size + 1 + 1, 2, none⟩ = some (.int .u64 0) := by subst hW; simp [go_sem]
  have r3 : W.cell? ⟨w.heap.size + 1 + 1, 3, none⟩ = some (.int .u64 0) := by subst hW; simp [go_sem]
  have r4 : W.cell? ⟨w.heap.size + 1 + 1, 4, none⟩ = some (.string ⟨#[]⟩) := by subst hW; simp [go_sem]
  have r5 : W.cell? ⟨w.heap.size + 1 + 1, 5, none⟩ = some (.slice none 0 0) := by subst hW; simp [go_sem]
  have rz : ∀ j, W.frozen? ⟨w.heap.size + 1 + 1, j, none⟩ = false := by subst hW; intro j; simp [go_sem]
  have bz : ∀ j, W.frozen? ⟨w.heap.size, j, none⟩ = false := by subst hW; intro j; simp [go_sem]
  have l0 : W.cell? ⟨w.heap.size + 1 + 1 + 1, 0, none⟩ = some (.int .u64 base) := by subst hW; simp [go_sem]
  have l1 : W.cell? ⟨w.heap.size + 1 + 1 + 1, 1, none⟩ = some (.int .u64 bt) := by subst hW; simp [go_sem]
  have l2 : W.cell? ⟨w.heap.size + 1 + 1 + 1, 2, none⟩ = some (.string snap) := by subst hW; simp [go_sem]
  have l3 : W.cell? ⟨w.heap.size + 1 + 1 + 1, 3, none⟩ = some (.slice a n c) := by subst hW; simp [go_sem]
  have hz : w.heap.size + 1 + 1 + 1 < W.heap.size := by subst hW; simp
  have hB : Below w.heap.size w W := by subst hW; go_grown
  clear hW
  clear hq
  have hz1 : w.heap.size + 1 < W.heap.size := by omega
  have hz0 : w.heap.size < W.heap.size := by omega
  have hz2 : w.heap.size + 1 + 1 < W.heap.size := by omega
  have hz1 : w.heap.size + 1 < W.heap.size := by omega
  have hz0 : w.heap.size < W.heap.size := by omega
  have hz2 : w.heap.size + 1 + 1 < W.heap.size := by omega
  have K1 : W.drew.cell? ⟨w.heap.size + 1, 1, none⟩ = some (.int .u64 i) ∧ W.drew.cell? ⟨w.heap.size + 1 + 1 + 1, 0, none⟩ = some (.int .u64 base) ∧ W.drew.cell? ⟨w.heap.size + 1 + 1 + 1, 1, none⟩ = some (.int .u64 bt) ∧ W.drew.cell? ⟨w.heap.size + 1 + 1 + 1, 2, none⟩ = some (.string snap) ∧ W.drew.cell? ⟨w.heap.size + 1 + 1 + 1, 3, none⟩ = some (.slice a n c) ∧ Below W.heap.size W W.drew := ⟨m1, l0, l1, l2, l3, (Below.refl _ _).drew⟩
  refine wp_region_held_drew (S := fun w' => w'.cell? ⟨w.heap.size + 1, 1, none⟩ = some (.int .u64 i) ∧ w'.cell? ⟨w.heap.size + 1 + 1 + 1, 0, none⟩ = some (.int .u64 base) ∧ w'.cell? ⟨w.heap.size + 1 + 1 + 1, 1, none⟩ = some (.int .u64 bt) ∧ w'.cell? ⟨w.heap.size + 1 + 1 + 1, 2, none⟩ = some (.string snap) ∧ w'.cell? ⟨w.heap.size + 1 + 1 + 1, 3, none⟩ = some (.slice a n c) ∧ Below W.heap.size W w') (by kernel_rfl) K1 (fun hHeld => ?_)
  refine wpAnyH_take (i := 0) (v := ?_) rfl (by kernel_rfl) (by kernel_rfl) (by kernel_rfl) (fun _ _ _ h => h) (Or.inl ⟨by rfl, ?hy0⟩) (by assumption) ?_
  case hy0 => (intro w0 hSw; (try dsimp only at hSw); go_simp; (try with_reducible rfl))
  try simp only [List.getElem_toArray, List.getElem_cons_zero, Act.put, List.setIfInBounds_toArray, List.set_cons_zero, List.set_cons_succ]
  refine wpAnyH_take (i := 1) (v := ?_) rfl (by kernel_rfl) (by kernel_rfl) (by kernel_rfl) (fun _ _ _ h => h) (Or.inl ⟨by rfl, ?hy1⟩) (by assumption) ?_
  case hy1 => (intro w0 hSw; (try dsimp only at hSw); go_simp; (try with_reducible rfl))
  try simp only [List.getElem_toArray, List.getElem_cons_succ, List.getElem_cons_zero, Act.put, List.setIfInBounds_toArray, List.set_cons_zero, List.set_cons_succ]
  refine wpAnyH_take (i := 2) (v := ?_) rfl (by kernel_rfl) (by kernel_rfl) (by kernel_rfl) (fun _ _ _ h => h) (Or.inl ⟨by rfl, ?hy2⟩) (by assumption) ?_
  case hy2 => (intro w0 hSw; (try dsimp only at hSw); go_simp; (try with_reducible rfl))
  try simp only [List.getElem_toArray, List.getElem_cons_succ, List.getElem_cons_zero, Act.put, List.setIfInBounds_toArray, List.set_cons_zero, List.set_cons_succ]
  refine wpAnyH_ready (rs := [3]) (by kernel_rfl) (by simp) ?_
  refine AllReadyH.cons rfl (fun K hK => ?_) AllReadyH.nil
  go_simp
  go_at_call 27
  (with_reducible refine (refLast_any _ _ _ _ _ _ _ (by omega) (by omega)).mono ?_)
  rintro e w2 ⟨rfl, hb2'⟩
  rw [HQ.out]
  have K2 := keepL K1 hb2' hz1 hz
  go_wp2_with fail
  refine hK.out _ _ K2 (fun hHeld2 => ?_)
  clear hK
  try simp only [List.getElem_toArray, List.getElem_cons_succ, List.getElem_cons_zero, Act.put, List.setIfInBounds_toArray, List.set_cons_zero, List.set_cons_succ]
  refine wpAnyH_take (i := 4) (v := ?_) rfl (by kernel_rfl) (by kernel_rfl) (by kernel_rfl) (fun _ _ _ h => h) (Or.inl ⟨by rfl, ?hy4⟩) (by assumption) ?_
  case hy4 => (intro w0 hSw; (try dsimp only at hSw); go_simp; (try with_reducible rfl))
  try simp only [List.getElem_toArray, List.getElem_cons_succ, List.getElem_cons_zero, Act.put, List.setIfInBounds_toArray, List.set_cons_zero, List.set_cons_succ]
  refine wpAnyH_take (i := 5) (v := ?_) rfl (by kernel_rfl) (by kernel_rfl) (by kernel_rfl) (fun _ _ _ h => h) (Or.inl ⟨by rfl, ?hy5⟩) (by assumption) ?_
  case hy5 => (intro w0 hSw; (try dsimp only at hSw); go_simp; (try with_reducible rfl))
  try simp only [List.getElem_toArray, List.getElem_cons_succ, List.getElem_cons_zero, Act.put, List.setIfInBounds_toArray, List.set_cons_zero, List.set_cons_succ]
  refine wpAnyH_take (i := 6) (v := ?_) rfl (by kernel_rfl) (by kernel_rfl) (by kernel_rfl) (fun _ _ _ h => h) (Or.inl ⟨by rfl, ?hy6⟩) (by assumption) ?_
  case hy6 => (intro w0 hSw; (try dsimp only at hSw); go_simp; (try with_reducible rfl))
  try simp only [List.getElem_toArray, List.getElem_cons_succ, List.getElem_cons_zero, Act.put, List.setIfInBounds_toArray, List.set_cons_zero, List.set_cons_succ]
  refine wpAnyH_take (i := 7) (v := ?_) rfl (by kernel_rfl) (by kernel_rfl) (by kernel_rfl) (fun _ _ _ h => h) (Or.inl ⟨by rfl, ?hy7⟩) (by assumption) ?_
  case hy7 => (intro w0 hSw; (try dsimp only at hSw); go_simp; (try with_reducible rfl))
  try simp only [List.getElem_toArray, List.getElem_cons_succ, List.getElem_cons_zero, Act.put, List.setIfInBounds_toArray, List.set_cons_zero, List.set_cons_succ]
  refine wpAnyH_take (i := 8) (v := ?_) rfl (by kernel_rfl) (by kernel_rfl) (by kernel_rfl) (fun _ _ _ h => h) (Or.inl ⟨by rfl, ?hy8⟩) (by assumption) ?_
  case hy8 => (intro w0 hSw; (try dsimp only at hSw); go_simp; (try with_reducible rfl))
  try simp only [List.getElem_toArray, List.getElem_cons_succ, List.getElem_cons_zero, Act.put, List.setIfInBounds_toArray, List.set_cons_zero, List.set_cons_succ]
  refine wpAnyH_take (i := 9) (v := ?_) rfl (by kernel_rfl) (by kernel_rfl) (by kernel_rfl) (fun _ _ _ h => h) (Or.inl ⟨by rfl, ?hy9⟩) (by assumption) ?_
  case hy9 => (intro w0 hSw; (try dsimp only at hSw); go_simp; (try with_reducible rfl))
  try simp only [List.getElem_toArray, List.getElem_cons_succ, List.getElem_cons_zero, Act.put, List.setIfInBounds_toArray, List.set_cons_zero, List.set_cons_succ]
  refine wpAnyH_take (i := 10) (v := ?_) rfl (by kernel_rfl) (by kernel_rfl) (by kernel_rfl) (fun _ _ _ h => h) (Or.inl ⟨by rfl, ?hy10⟩) (by assumption) ?_
  case hy10 => (intro w0 hSw; (try dsimp only at hSw); go_simp; (try with_reducible rfl))
  try simp only [List.getElem_toArray, List.getElem_cons_succ, List.getElem_cons_zero, Act.put, List.setIfInBounds_toArray, List.set_cons_zero, List.set_cons_succ]
  refine wpAnyH_take (i := 11) (v := ?_) rfl (by kernel_rfl) (by kernel_rfl) (by kernel_rfl) (fun _ _ _ h => h) (Or.inl ⟨by rfl, ?hy11⟩) (by assumption) ?_
  case hy11 => (intro w0 hSw; (try dsimp only at hSw); go_simp; (try with_reducible rfl))
  try simp only [List.getElem_toArray, List.getElem_cons_succ, List.getElem_cons_zero, Act.put, List.setIfInBounds_toArray, List.set_cons_zero, List.set_cons_succ]
  refine wpAnyH_take (i := 12) (v := ?_) rfl (by kernel_rfl) (by kernel_rfl) (by kernel_rfl) (fun _ _ _ h => h) (Or.inl ⟨by rfl, ?hy12⟩) (by assumption) ?_
  case hy12 => (intro w0 hSw; (try dsimp only at hSw); go_simp; (try with_reducible rfl))
  try simp only [List.getElem_toArray, List.getElem_cons_succ, List.getElem_cons_zero, Act.put, List.setIfInBounds_toArray, List.set_cons_zero, List.set_cons_succ]
  refine wpAnyH_take (i := 13) (v := ?_) rfl (by kernel_rfl) (by kernel_rfl) (by kernel_rfl) (fun _ _ _ h => h) (Or.inl ⟨by rfl, ?hy13⟩) (by assumption) ?_
  case hy13 => (intro w0 hSw; (try dsimp only at hSw); go_simp; (try with_reducible rfl))
  try simp only [List.getElem_toArray, List.getElem_cons_succ, List.getElem_cons_zero, Act.put, List.setIfInBounds_toArray, List.set_cons_zero, List.set_cons_succ]
  refine wpAnyH_take (i := 14) (v := ?_) rfl (by kernel_rfl) (by kernel_rfl) (by kernel_rfl) (fun _ _ _ h => h) (Or.inl ⟨by rfl, ?hy14⟩) (by assumption) ?_
  case hy14 => (intro w0 hSw; (try dsimp only at hSw); go_simp; (try with_reducible rfl))
  try simp only [List.getElem_toArray, List.getElem_cons_succ, List.getElem_cons_zero, Act.put, List.setIfInBounds_toArray, List.set_cons_zero, List.set_cons_succ]
  refine wpAnyH_take (i := 15) (v := ?_) rfl (by kernel_rfl) (by kernel_rfl) (by kernel_rfl) (fun _ _ _ h => h) (Or.inl ⟨by rfl, ?hy15⟩) (by assumption) ?_
  case hy15 => (intro w0 hSw; (try dsimp only at hSw); go_simp; (try with_reducible rfl))
  try simp only [List.getElem_toArray, List.getElem_cons_succ, List.getElem_cons_zero, Act.put, List.setIfInBounds_toArray, List.set_cons_zero, List.set_cons_succ]
  refine wpAnyH_take (i := 16) (v := ?_) rfl (by kernel_rfl) (by kernel_rfl) (by kernel_rfl) (fun _ _ _ h => h) (Or.inl ⟨by rfl, ?hy16⟩) (by assumption) ?_
  case hy16 => (intro w0 hSw; (try dsimp only at hSw); go_simp; (try with_reducible rfl))
  try simp only [List.getElem_toArray, List.getElem_cons_succ, List.getElem_cons_zero, Act.put, List.setIfInBounds_toArray, List.set_cons_zero, List.set_cons_succ]
  refine wpAnyH_done (by kernel_rfl) ?_ _
  obtain ⟨_, _, _, _, _, hb2⟩ := K2
  have C0 : w2.cell? ⟨w.heap.size, 0, none⟩ = some (.int .u64 term) := (hb2.cell (p := ⟨w.heap.size, 0, none⟩) hz0).trans b0
  have C1 : w2.cell? ⟨w.heap.size, 1, none⟩ = some (.int .u64 vote) := (hb2.cell (p := ⟨w.heap.size, 1, none⟩) hz0).trans b1
  have C2 : w2.cell? ⟨w.heap.size, 2, none⟩ = some (.int .u64 base) := (hb2.cell (p := ⟨w.heap.size, 2, none⟩) hz0).trans b2
  have C3 : w2.cell? ⟨w.heap.size, 3, none⟩ = some (.int .u64 bt) := (hb2.cell (p := ⟨w.heap.size, 3, none⟩) hz0).trans b3
  have C4 : w2.cell? ⟨w.heap.size, 4, none⟩ = some (.string snap) := (hb2.cell (p := ⟨w.heap.size, 4, none⟩) hz0).trans b4
  have C5 : w2.cell? ⟨w.heap.size, 5, none⟩ = some (.slice a n c) := (hb2.cell (p := ⟨w.heap.size, 5, none⟩) hz0).trans b5
  have R0 : w2.cell? ⟨w.heap.size + 1 + 1, 0, none⟩ = some (.int .u64 0) := (hb2.cell (p := ⟨w.heap.size + 1 + 1, 0, none⟩) hz2).trans r0
  have R1 : w2.cell? ⟨w.heap.size + 1 + 1, 1, none⟩ = some (.int .u64 0) := (hb2.cell (p := ⟨w.heap.size + 1 + 1, 1, none⟩) hz2).trans r1
  have R2 : w2.cell? ⟨w.heap.size + 1 + 1, 2, none⟩ = some (.int .u64 0) := (hb2.cell (p := ⟨w.heap.size + 1 + 1, 2, none⟩) hz2).trans r2
  have R3 : w2.cell? ⟨w.heap.size + 1 + 1, 3, none⟩ = some (.int .u64 0) := (hb2.cell (p := ⟨w.heap.size + 1 + 1, 3, none⟩) hz2).trans r3
  have R4 : w2.cell? ⟨w.heap.size + 1 + 1, 4, none⟩ = some (.string ⟨#[]⟩) := (hb2.cell (p := ⟨w.heap.size + 1 + 1, 4, none⟩) hz2).trans r4
  have R5 : w2.cell? ⟨w.heap.size + 1 + 1, 5, none⟩ = some (.slice none 0 0) := (hb2.cell (p := ⟨w.heap.size + 1 + 1, 5, none⟩) hz2).trans r5
  have RZ : ∀ j, w2.frozen? ⟨w.heap.size + 1 + 1, j, none⟩ = false := fun j => (hb2.frozen (p := ⟨w.heap.size + 1 + 1, j, none⟩) hz2).trans (rz j)
  have B2 : Below w.heap.size w w2 := hB.trans (hb2.mono hB.size)
  have hx : w.heap.size ≤ w.heap.size + 1 + 1 := by omega
  clear b0 b1 b2 b3 b4 b5 r0 r1 r2 r3 r4 r5 rz bz l0 l1 l2 l3 m1 m2 m4 K1 hb2 hB
  go_wp2_with fail
  refine bodyPost_ret (v := .agg #[.int .u64 term, .int .u64 vote, .int .u64 base, .int .u64 bt, .string snap, .slice a n c]) (by simp [results, Tryd.results39, go_sem, R0, R1, R2, R3, R4, R5]) rfl ?_
  exact HF.out _ ((((((B2.setCell hx _).setCell hx _).setCell hx _).setCell hx _).setCell hx _).setCell hx _)
end Go.Proofs.YtjbhnkigbobhiaaDoor
