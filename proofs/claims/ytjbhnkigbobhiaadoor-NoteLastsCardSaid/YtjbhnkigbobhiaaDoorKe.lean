/- The program's log: snapped. -/
import Derived.Test.YtjbhnkigbobhiaaDoorKc
namespace Go.Proofs.YtjbhnkigbobhiaaDoor
open Go.RowKit

set_option maxRecDepth 100000 in
set_option maxHeartbeats 4000000 in
theorem snapped_a (B : Nat) (base bt n c : Nat) (snap : ByteArray) (a : Option Addr) (L : List En) (hn : L.length = n) (_ : n ≤ 1024) (_ : base + n ≤ 1099511627776) (w : World) (hO : Oe B w a c L) (hBw : B ≤ w.heap.size) (i t v : Nat) (d : ByteArray) (h1 : i ≤ base) :
    Calls Tryd.prog 32 #[.agg #[.int .u64 base, .int .u64 bt, .string snap, .slice a n c], .agg #[.int .i64 4, .int .u64 i, .int .u64 t, .int .u64 v, .string d]] w (LgP B w (Sg.step ⟨0, 0, base, bt, snap, L⟩ ⟨4, i, t, v, d⟩)) := by
  have hf : ∀ w', Below w.heap.size w w' → LgP B w (Sg.step ⟨0, 0, base, bt, snap, L⟩ ⟨4, i, t, v, d⟩) (.returned (.agg #[.int .u64 base, .int .u64 bt, .string snap, .slice a n c])) w' := fun w' hb => by
    have e : Sg.step ⟨0, 0, base, bt, snap, L⟩ ⟨4, i, t, v, d⟩ = ⟨0, 0, base, bt, snap, L⟩ := by simp [Sg.step, h1]
    rw [e]; exact ⟨a, c, by rw [← hn], hO.later hb, hb.mono hBw⟩
  have HF := Lib.hid hf; clear hf hO hn
  have g1 : (i : Int) ≤ (base : Int) := by omega
  go_enter Tryd.func32, Tryd.ntmps32
  go_wp2_with fail
  refine bodyPost_ret (v := .agg #[.int .u64 base, .int .u64 bt, .string snap, .slice a n c]) (by simp [results, Tryd.results32, go_sem]) rfl ?_
  refine HF.out _ ?_
  go_grown
set_option maxRecDepth 100000 in
set_option maxHeartbeats 4000000 in
theorem snapped_b (B : Nat) (base bt n c : Nat) (snap : ByteArray) (a : Option Addr) (L : List En) (hn : L.length = n) (_ : n ≤ 1024) (_ : base + n ≤ 1099511627776) (w : World) (hO : Oe B w a c L) (hBw : B ≤ w.heap.size) (i t v : Nat) (d : ByteArray) (h1 : ¬ i ≤ base) (h2 : 1099511627776 < i) :
    Calls Tryd.prog 32 #[.agg #[.int .u64 base, .int .u64 bt, .string snap, .slice a n c], .agg #[.int .i64 4, .int .u64 i, .int .u64 t, .int .u64 v, .string d]] w (LgP B w (Sg.step ⟨0, 0, base, bt, snap, L⟩ ⟨4, i, t, v, d⟩)) := by
  have hf : ∀ w', Below w.heap.size w w' → LgP B w (Sg.step ⟨0, 0, base, bt, snap, L⟩ ⟨4, i, t, v, d⟩) (.returned (.agg #[.int .u64 base, .int .u64 bt, .string snap, .slice a n c])) w' := fun w' hb => by
    have e : Sg.step ⟨0, 0, base, bt, snap, L⟩ ⟨4, i, t, v, d⟩ = ⟨0, 0, base, bt, snap, L⟩ := by simp [Sg.step, h2]
    rw [e]; exact ⟨a, c, by rw [← hn], hO.later hb, hb.mono hBw⟩
  have HF := Lib.hid hf; clear hf hO hn
  have g1 : ¬ (i : Int) ≤ (base : Int) := by omega
  have g2 : (1099511627776 : Int) < (i : Int) := by omega
  go_enter Tryd.func32, Tryd.ntmps32
  go_wp2_with fail
  refine bodyPost_ret (v := .agg #[.int .u64 base, .int .u64 bt, .string snap, .slice a n c]) (by simp [results, Tryd.results32, go_sem]) rfl ?_
  refine HF.out _ ?_
  go_grown
set_option maxRecDepth 100000 in
set_option maxHeartbeats 4000000 in
theorem snapped_c (B : Nat) (base bt n c : Nat) (snap : ByteArray) (a : Option Addr) (L : List En) (hn : L.length = n) (hl : n ≤ 1024) (hbn : base + n ≤ 1099511627776) (w : World) (hO : Oe B w a c L) (hBw : B ≤ w.heap.size) (i t v : Nat) (d : ByteArray) (h1 : base < i) (h2 : i ≤ 1099511627776) (h3 : base + n < i) :
    Calls Tryd.prog 32 #[.agg #[.int .u64 base, .int .u64 bt, .string snap, .slice a n c], .agg #[.int .i64 4, .int .u64 i, .int .u64 t, .int .u64 v, .string d]] w (LgP B w (Sg.step ⟨0, 0, base, bt, snap, L⟩ ⟨4, i, t, v, d⟩)) := by
  have hk : keptL base L i t = [] := by
    unfold keptL; rw [List.getElem?_eq_none (by omega)]
  have hstep : Sg.step ⟨0, 0, base, bt, snap, L⟩ ⟨4, i, t, v, d⟩ = ⟨0, 0, i, t, d, []⟩ := by
    have h0 : ¬ (i ≤ base ∨ 1099511627776 < i) := by omega
    simp [Sg.step, h0, hk]
  rw [hstep]
  clear hstep
  have HN := Lib.hid hn; clear hn
  have HO := Lib.hid hO; clear hO
  obtain ⟨q, hq⟩ : ∃ q, base + n = q := ⟨_, rfl⟩
  have hql : q ≤ 1099511627776 := by omega
  have g1 : ¬ (i : Int) ≤ (base : Int) := by omega
  have g2 : ¬ (1099511627776 : Int) < (i : Int) := by omega
  have g3 : ¬ (i : Int) ≤ (q : Int) := by omega
  have g3n : ¬ i ≤ q := by omega
  have HQ := Lib.hid hq; clear hq
  go_enter Tryd.func32, Tryd.ntmps32
  go_wp2_with fail
  generalize hW : ((((w.alloc (.cells #[.int .u64 base, .int .u64 bt, .string snap, .slice a n c] 34)).alloc (.cells #[.int .i64 4, .int .u64 i, .int .u64 t, .int .u64 v, .string d] 24)).alloc (.cells #[.int .u64 0, .int .u64 0, .string ⟨#[]⟩, .slice none 0 0] 34)).alloc (.cells #[.int .u64 i, .int .u64 t, .string d, .slice none 0 0] 34)) = W
  have b0 : W.cell? ⟨w.heap.size, 0, none⟩ = some (.int .u64 base) := by subst hW; simp [go_sem]
  have b1 : W.cell? ⟨w.heap.size, 1, none⟩ = some (.int .u64 bt) := by subst hW; simp [go_sem]
  have b2 : W.cell? ⟨w.heap.size, 2, none⟩ = some (.string snap) := by subst hW; simp [go_sem]
  have b3 : W.cell? ⟨w.heap.size, 3, none⟩ = some (.slice a n c) := by subst hW; simp [go_sem]
  have m1 : W.cell? ⟨w.heap.size + 1, 1, none⟩ = some (.int .u64 i) := by subst hW; simp [go_sem]
  have m2 : W.cell? ⟨w.heap.size + 1, 2, none⟩ = some (.int .u64 t) := by subst hW; simp [go_sem]
  have r0 : W.cell? ⟨w.heap.size + 1 + 1, 0, none⟩ = some (.int .u64 0) := by subst hW; simp [go_sem]
  have r1 : W.cell? ⟨w.heap.size + 1 + 1, 1, none⟩ = some (.int .u64 0) := by subst hW; simp [go_sem]
  have r2 : W.cell? ⟨w.heap.size + 1 + 1, 2, none⟩ = some (.string ⟨#[]⟩) := by subst hW; simp [go_sem]
  have r3 : W.cell? ⟨w.heap.size + 1 + 1, 3, none⟩ = some (.slice none 0 0) := by subst hW; simp [go_sem]
  have rz : ∀ j, W.frozen? ⟨w.heap.size + 1 + 1, j, none⟩ = false := by subst hW; intro j; simp [go_sem]
  have s0 : W.cell? ⟨w.heap.size + 1 + 1 + 1, 0, none⟩ = some (.int .u64 i) := by subst hW; simp [go_sem]
  have s1 : W.cell? ⟨w.heap.size + 1 + 1 + 1, 1, none⟩ = some (.int .u64 t) := by subst hW; simp [go_sem]
  have s2 : W.cell? ⟨w.heap.size + 1 + 1 + 1, 2, none⟩ = some (.string d) := by subst hW; simp [go_sem]
  have s3 : W.cell? ⟨w.heap.size + 1 + 1 + 1, 3, none⟩ = some (.slice none 0 0) := by subst hW; simp [go_sem]
  have sz : ∀ j, W.frozen? ⟨w.heap.size + 1 + 1 + 1, j, none⟩ = false := by subst hW; intro j; simp [go_sem]
  have hz : w.heap.size + 1 + 1 + 1 < W.heap.size := by subst hW; simp
  have hB : Below w.heap.size w W := by subst hW; go_grown
  clear hW
  have hz0 : w.heap.size < W.heap.size := by omega
  have hz1 : w.heap.size + 1 < W.heap.size := by omega
  have hz2 : w.heap.size + 1 + 1 < W.heap.size := by omega
  have K1 : W.drew.cell? ⟨w.heap.size + 1, 1, none⟩ = some (.int .u64 i) ∧ W.drew.cell? ⟨w.heap.size, 0, none⟩ = some (.int .u64 base) ∧ W.drew.cell? ⟨w.heap.size, 1, none⟩ = some (.int .u64 bt) ∧ W.drew.cell? ⟨w.heap.size, 2, none⟩ = some (.string snap) ∧ W.drew.cell? ⟨w.heap.size, 3, none⟩ = some (.slice a n c) ∧ Below W.heap.size W W.drew := ⟨m1, b0, b1, b2, b3, (Below.refl _ _).drew⟩
  refine wp_region_held_drew (S := fun w' => w'.cell? ⟨w.heap.size + 1, 1, none⟩ = some (.int .u64 i) ∧ w'.cell? ⟨w.heap.size, 0, none⟩ = some (.int .u64 base) ∧ w'.cell? ⟨w.heap.size, 1, none⟩ = some (.int .u64 bt) ∧ w'.cell? ⟨w.heap.size, 2, none⟩ = some (.string snap) ∧ w'.cell? ⟨w.heap.size, 3, none⟩ = some (.slice a n c) ∧ Below W.heap.size W w') (by kernel_rfl) K1 (fun hHeld => ?_)
  refine wpAnyH_take (i := 0) (v := ?_) rfl (by kernel_rfl) (by kernel_rfl) (by kernel_rfl) (fun _ _ _ h => h) (Or.inl ⟨by rfl, ?hy0⟩) (by assumption) ?_
  case hy0 => (intro w0 hSw; (try dsimp only at hSw); go_simp; (try with_reducible rfl))
  try simp only [List.getElem_toArray, List.getElem_cons_zero, Act.put, List.setIfInBounds_toArray, List.set_cons_zero, List.set_cons_succ]
  refine wpAnyH_take (i := 1) (v := ?_) rfl (by kernel_rfl) (by kernel_rfl) (by kernel_rfl) (fun _ _ _ h => h) (Or.inl ⟨by rfl, ?hy1⟩) (by assumption) ?_
  case hy1 => (intro w0 hSw; (try dsimp only at hSw); go_simp; (try with_reducible rfl))
  try simp only [List.getElem_toArray, List.getElem_cons_succ, List.getElem_cons_zero, Act.put, List.setIfInBounds_toArray, List.set_cons_zero, List.set_cons_succ]
  refine wpAnyH_take (i := 2) (v := ?_) rfl (by kernel_rfl) (by kernel_rfl) (by kernel_rfl) (fun _ _ _ h => h) (Or.inl ⟨by rfl, ?hy2⟩) (by assumption) ?_
  case hy2 => (intro w0 hSw; (try dsimp only at hSw); go_simp; (try with_reducible rfl))
  try simp only [List.getElem_toArray, List.getElem_cons_succ, List.getElem_cons_zero, Act.put, List.setIfInBounds_toArray, List.set_cons_zero, List.set_cons_succ]
  refine wpAnyH_ready (rs := [3]) (by kernel_rfl) (by simp) ?_
  refine AllReadyH.cons rfl (fun K hK => ?_) AllReadyH.nil
  go_simp
  go_at_call 51
  (with_reducible refine (last_any _ _ _ _ _ _ _ (by omega) (by omega)).mono ?_)
  rintro e w2 ⟨rfl, hb2'⟩
  rw [HQ.out]
  have K2 := keepM K1 hb2' hz1 hz0
  go_wp2_with fail
  refine hK.out _ _ K2 (fun hHeld2 => ?_)
  clear hK
  try simp only [List.getElem_toArray, List.getElem_cons_succ, List.getElem_cons_zero, Act.put, List.setIfInBounds_toArray, List.set_cons_zero, List.set_cons_succ]
  refine wpAnyH_take (i := 4) (v := ?_) rfl (by kernel_rfl) (by kernel_rfl) (by kernel_rfl) (fun _ _ _ h => h) (Or.inl ⟨by rfl, ?hy4⟩) (by assumption) ?_
  case hy4 => (intro w0 hSw; (try dsimp only at hSw); go_simp; (try with_reducible rfl))
  try simp only [List.getElem_toArray, List.getElem_cons_succ, List.getElem_cons_zero, Act.put, List.setIfInBounds_toArray, List.set_cons_zero, List.set_cons_succ]
  refine wpAnyH_take (i := 5) (v := ?_) rfl (by kernel_rfl) (by kernel_rfl) (by kernel_rfl) (fun _ _ _ h => h) (Or.inl ⟨by rfl, ?hy5⟩) (by assumption) ?_
  case hy5 => (intro w0 hSw; (try dsimp only at hSw); go_simp; (try with_reducible rfl))
  try simp only [List.getElem_toArray, List.getElem_cons_succ, List.getElem_cons_zero, Act.put, List.setIfInBounds_toArray, List.set_cons_zero, List.set_cons_succ]
  refine wpAnyH_take (i := 6) (v := undef) rfl (by kernel_rfl) (by kernel_rfl) (by kernel_rfl) (fun _ _ _ h => h) (Or.inr ⟨by rfl, rfl⟩) (by assumption) ?_
  try simp only [List.getElem_toArray, List.getElem_cons_succ, List.getElem_cons_zero, Act.put, List.setIfInBounds_toArray, List.set_cons_zero, List.set_cons_succ]
  refine wpAnyH_take (i := 7) (v := undef) rfl (by kernel_rfl) (by kernel_rfl) (by kernel_rfl) (fun _ _ _ h => h) (Or.inr ⟨by rfl, rfl⟩) (by assumption) ?_
  try simp only [List.getElem_toArray, List.getElem_cons_succ, List.getElem_cons_zero, Act.put, List.setIfInBounds_toArray, List.set_cons_zero, List.set_cons_succ]
  refine wpAnyH_take (i := 8) (v := undef) rfl (by kernel_rfl) (by kernel_rfl) (by kernel_rfl) (fun _ _ _ h => h) (Or.inr ⟨by rfl, rfl⟩) (by assumption) ?_
  try simp only [List.getElem_toArray, List.getElem_cons_succ, List.getElem_cons_zero, Act.put, List.setIfInBounds_toArray, List.set_cons_zero, List.set_cons_succ]
  refine wpAnyH_take (i := 9) (v := undef) rfl (by kernel_rfl) (by kernel_rfl) (by kernel_rfl) (fun _ _ _ h => h) (Or.inr ⟨by rfl, rfl⟩) (by assumption) ?_
  try simp only [List.getElem_toArray, List.getElem_cons_succ, List.getElem_cons_zero, Act.put, List.setIfInBounds_toArray, List.set_cons_zero, List.set_cons_succ]
  refine wpAnyH_take (i := 10) (v := undef) rfl (by kernel_rfl) (by kernel_rfl) (by kernel_rfl) (fun _ _ _ h => h) (Or.inr ⟨by rfl, rfl⟩) (by assumption) ?_
  try simp only [List.getElem_toArray, List.getElem_cons_succ, List.getElem_cons_zero, Act.put, List.setIfInBounds_toArray, List.set_cons_zero, List.set_cons_succ]
  refine wpAnyH_take (i := 11) (v := undef) rfl (by kernel_rfl) (by kernel_rfl) (by kernel_rfl) (fun _ _ _ h => h) (Or.inr ⟨by rfl, rfl⟩) (by assumption) ?_
  try simp only [List.getElem_toArray, List.getElem_cons_succ, List.getElem_cons_zero, Act.put, List.setIfInBounds_toArray, List.set_cons_zero, List.set_cons_succ]
  refine wpAnyH_take (i := 12) (v := undef) rfl (by kernel_rfl) (by kernel_rfl) (by kernel_rfl) (fun _ _ _ h => h) (Or.inr ⟨by rfl, rfl⟩) (by assumption) ?_
  try simp only [List.getElem_toArray, List.getElem_cons_succ, List.getElem_cons_zero, Act.put, List.setIfInBounds_toArray, List.set_cons_zero, List.set_cons_succ]
  refine wpAnyH_take (i := 13) (v := undef) rfl (by kernel_rfl) (by kernel_rfl) (by kernel_rfl) (fun _ _ _ h => h) (Or.inr ⟨by rfl, rfl⟩) (by assumption) ?_
  try simp only [List.getElem_toArray, List.getElem_cons_succ, List.getElem_cons_zero, Act.put, List.setIfInBounds_toArray, List.set_cons_zero, List.set_cons_succ]
  refine wpAnyH_take (i := 14) (v := undef) rfl (by kernel_rfl) (by kernel_rfl) (by kernel_rfl) (fun _ _ _ h => h) (Or.inr ⟨by rfl, rfl⟩) (by assumption) ?_
  try simp only [List.getElem_toArray, List.getElem_cons_succ, List.getElem_cons_zero, Act.put, List.setIfInBounds_toArray, List.set_cons_zero, List.set_cons_succ]
  refine wpAnyH_take (i := 15) (v := undef) rfl (by kernel_rfl) (by kernel_rfl) (by kernel_rfl) (fun _ _ _ h => h) (Or.inr ⟨by rfl, rfl⟩) (by assumption) ?_
  try simp only [List.getElem_toArray, List.getElem_cons_succ, List.getElem_cons_zero, Act.put, List.setIfInBounds_toArray, List.set_cons_zero, List.set_cons_succ]
  refine wpAnyH_take (i := 16) (v := undef) rfl (by kernel_rfl) (by kernel_rfl) (by kernel_rfl) (fun _ _ _ h => h) (Or.inr ⟨by rfl, rfl⟩) (by assumption) ?_
  try simp only [List.getElem_toArray, List.getElem_cons_succ, List.getElem_cons_zero, Act.put, List.setIfInBounds_toArray, List.set_cons_zero, List.set_cons_succ]
  refine wpAnyH_take (i := 17) (v := undef) rfl (by kernel_rfl) (by kernel_rfl) (by kernel_rfl) (fun _ _ _ h => h) (Or.inr ⟨by rfl, rfl⟩) (by assumption) ?_
  try simp only [List.getElem_toArray, List.getElem_cons_succ, List.getElem_cons_zero, Act.put, List.setIfInBounds_toArray, List.set_cons_zero, List.set_cons_succ]
  refine wpAnyH_take (i := 18) (v := undef) rfl (by kernel_rfl) (by kernel_rfl) (by kernel_rfl) (fun _ _ _ h => h) (Or.inr ⟨by rfl, rfl⟩) (by assumption) ?_
  try simp only [List.getElem_toArray, List.getElem_cons_succ, List.getElem_cons_zero, Act.put, List.setIfInBounds_toArray, List.set_cons_zero, List.set_cons_succ]
  refine wpAnyH_take (i := 19) (v := undef) rfl (by kernel_rfl) (by kernel_rfl) (by kernel_rfl) (fun _ _ _ h => h) (Or.inr ⟨by rfl, rfl⟩) (by assumption) ?_
  try simp only [List.getElem_toArray, List.getElem_cons_succ, List.getElem_cons_zero, Act.put, List.setIfInBounds_toArray, List.set_cons_zero, List.set_cons_succ]
  refine wpAnyH_take (i := 20) (v := ?_) rfl (by kernel_rfl) (by kernel_rfl) (by kernel_rfl) (fun _ _ _ h => h) (Or.inl ⟨by rfl, ?hy20⟩) (by assumption) ?_
  case hy20 => (intro w0 hSw; (try dsimp only at hSw); go_simp; (try with_reducible rfl))
  try simp only [List.getElem_toArray, List.getElem_cons_succ, List.getElem_cons_zero, Act.put, List.setIfInBounds_toArray, List.set_cons_zero, List.set_cons_succ]
  refine wpAnyH_done (by kernel_rfl) ?_ _
  obtain ⟨_, _, _, _, _, hb2⟩ := K2
  have C0 : w2.cell? ⟨w.heap.size, 0, none⟩ = some (.int .u64 base) := (hb2.cell (p := ⟨w.heap.size, 0, none⟩) hz0).trans b0
  have C1 : w2.cell? ⟨w.heap.size, 1, none⟩ = some (.int .u64 bt) := (hb2.cell (p := ⟨w.heap.size, 1, none⟩) hz0).trans b1
  have C2 : w2.cell? ⟨w.heap.size, 2, none⟩ = some (.string snap) := (hb2.cell (p := ⟨w.heap.size, 2, none⟩) hz0).trans b2
  have C3 : w2.cell? ⟨w.heap.size, 3, none⟩ = some (.slice a n c) := (hb2.cell (p := ⟨w.heap.size, 3, none⟩) hz0).trans b3
  have N1 : w2.cell? ⟨w.heap.size + 1, 1, none⟩ = some (.int .u64 i) := (hb2.cell (p := ⟨w.heap.size + 1, 1, none⟩) hz1).trans m1
  have R0 : w2.cell? ⟨w.heap.size + 1 + 1, 0, none⟩ = some (.int .u64 0) := (hb2.cell (p := ⟨w.heap.size + 1 + 1, 0, none⟩) hz2).trans r0
  have R1 : w2.cell? ⟨w.heap.size + 1 + 1, 1, none⟩ = some (.int .u64 0) := (hb2.cell (p := ⟨w.heap.size + 1 + 1, 1, none⟩) hz2).trans r1
  have R2 : w2.cell? ⟨w.heap.size + 1 + 1, 2, none⟩ = some (.string ⟨#[]⟩) := (hb2.cell (p := ⟨w.heap.size + 1 + 1, 2, none⟩) hz2).trans r2
  have R3 : w2.cell? ⟨w.heap.size + 1 + 1, 3, none⟩ = some (.slice none 0 0) := (hb2.cell (p := ⟨w.heap.size + 1 + 1, 3, none⟩) hz2).trans r3
  have RZ : ∀ j, w2.frozen? ⟨w.heap.size + 1 + 1, j, none⟩ = false := fun j => (hb2.frozen (p := ⟨w.heap.size + 1 + 1, j, none⟩) hz2).trans (rz j)
  have S0 : w2.cell? ⟨w.heap.size + 1 + 1 + 1, 0, none⟩ = some (.int .u64 i) := (hb2.cell (p := ⟨w.heap.size + 1 + 1 + 1, 0, none⟩) hz).trans s0
  have S1 : w2.cell? ⟨w.heap.size + 1 + 1 + 1, 1, none⟩ = some (.int .u64 t) := (hb2.cell (p := ⟨w.heap.size + 1 + 1 + 1, 1, none⟩) hz).trans s1
  have S2 : w2.cell? ⟨w.heap.size + 1 + 1 + 1, 2, none⟩ = some (.string d) := (hb2.cell (p := ⟨w.heap.size + 1 + 1 + 1, 2, none⟩) hz).trans s2
  have S3 : w2.cell? ⟨w.heap.size + 1 + 1 + 1, 3, none⟩ = some (.slice none 0 0) := (hb2.cell (p := ⟨w.heap.size + 1 + 1 + 1, 3, none⟩) hz).trans s3
  have SZ : ∀ j, w2.frozen? ⟨w.heap.size + 1 + 1 + 1, j, none⟩ = false := fun j => (hb2.frozen (p := ⟨w.heap.size + 1 + 1 + 1, j, none⟩) hz).trans (sz j)
  have B2 : Below w.heap.size w w2 := hB.trans (hb2.mono hB.size)
  have hsz : w.heap.size + 1 + 1 + 1 < w2.heap.size := Nat.lt_of_lt_of_le hz hb2.size
  have hx : w.heap.size ≤ w.heap.size + 1 + 1 := by omega
  clear b0 b1 b2 b3 m1 m2 r0 r1 r2 r3 rz s0 s1 s2 s3 sz hb2 hB K1
  go_wp2_with fail
  refine bodyPost_ret (v := .agg #[.int .u64 i, .int .u64 t, .string d, .slice none 0 0]) (by simp [results, Tryd.results32, go_sem, R0, R1, R2, R3]) rfl ?_
  have hB2 : B ≤ w.heap.size + 1 + 1 := by omega
  exact ⟨none, 0, rfl, Oe.nil _ _, (((((B2.mono hBw).setCell hB2 _).setCell hB2 _).setCell hB2 _).setCell hB2 _)⟩
end Go.Proofs.YtjbhnkigbobhiaaDoor
