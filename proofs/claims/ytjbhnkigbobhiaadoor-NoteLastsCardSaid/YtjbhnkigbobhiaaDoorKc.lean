/- The program's log: last, appended. -/
import Derived.Test.YtjbhnkigbobhiaaDoorKa
import Derived.Test.YtjbhnkigbobhiaaDoorSe
import Derived.Deep.RegionHeld3
import Derived.IntWalk
import Derived.Outline
import Derived.Lib.AppendZeros
namespace Go.Proofs.YtjbhnkigbobhiaaDoor
open Go.RowKit

@[reducible] def Sg.log (s : Sg) (a : Option Addr) (c : Nat) : Value := .agg #[.int .u64 s.base, .int .u64 s.bt, .string s.snap, .slice a s.L.length c]
/-- What a call that gives another log answers. -/
def LgP (B : Nat) (w : World) (s : Sg) (e : Ending) (w' : World) : Prop := ∃ a c, e = .returned (s.log a c) ∧ Oe B w' a c s.L ∧ Below B w w'
theorem last_any (a : Option Addr) (n c base bt : Nat) (snap : ByteArray) (w : World) (hb : base ≤ 1099511627776) (hn : n ≤ 1048576) :
    Calls Tryd.prog 51 #[.agg #[.int .u64 base, .int .u64 bt, .string snap, .slice a n c]] w fun e w' => e = .returned (.int .u64 (base + n : Nat)) ∧ Below w.heap.size w w' := by
  go_enter Tryd.func51, Tryd.ntmps51
  go_wp2_with fail
  go_ret
  exact ⟨by simp, (Below.refl _ _).alloc (Nat.le_refl _) _⟩
/-- What is held of the boxes while last makes memory. -/
theorem keepM {W wp w2 : World} {x y : Nat} {vi v0 v1 v2 v3 : Value} (K : wp.cell? ⟨x, 1, none⟩ = some vi ∧ wp.cell? ⟨y, 0, none⟩ = some v0 ∧ wp.cell? ⟨y, 1, none⟩ = some v1 ∧ wp.cell? ⟨y, 2, none⟩ = some v2 ∧ wp.cell? ⟨y, 3, none⟩ = some v3 ∧ Below W.heap.size W wp) (hb : Below wp.heap.size wp w2) (hx : x < W.heap.size) (hy : y < W.heap.size) :
    w2.cell? ⟨x, 1, none⟩ = some vi ∧ w2.cell? ⟨y, 0, none⟩ = some v0 ∧ w2.cell? ⟨y, 1, none⟩ = some v1 ∧ w2.cell? ⟨y, 2, none⟩ = some v2 ∧ w2.cell? ⟨y, 3, none⟩ = some v3 ∧ Below W.heap.size W w2 := by
  obtain ⟨ki, k0, k1, k2, k3, hB⟩ := K
  have hs := hB.size
  exact ⟨(hb.cell (p := ⟨x, 1, none⟩) (by show x < _; omega)).trans ki, (hb.cell (p := ⟨y, 0, none⟩) (by show y < _; omega)).trans k0, (hb.cell (p := ⟨y, 1, none⟩) (by show y < _; omega)).trans k1, (hb.cell (p := ⟨y, 2, none⟩) (by show y < _; omega)).trans k2, (hb.cell (p := ⟨y, 3, none⟩) (by show y < _; omega)).trans k3, hB.trans (hb.mono hs)⟩
set_option maxRecDepth 100000 in
set_option maxHeartbeats 4000000 in
theorem appended_a (B : Nat) (term vote base bt n c : Nat) (snap : ByteArray) (a : Option Addr) (L : List En) (hn : L.length = n) (hl : n ≤ 1024) (hbn : base + n ≤ 1099511627776) (w : World) (hO : Oe B w a c L) (hBw : B ≤ w.heap.size) (i t v : Nat) (d : ByteArray) (h1 : ¬ i = base + n + 1) :
    Calls Tryd.prog 30 #[.agg #[.int .u64 base, .int .u64 bt, .string snap, .slice a n c], .agg #[.int .i64 2, .int .u64 i, .int .u64 t, .int .u64 v, .string d]] w (LgP B w (Sg.step ⟨term, vote, base, bt, snap, L⟩ ⟨2, i, t, v, d⟩)) := by
  have hf : ∀ w', Below w.heap.size w w' → LgP B w (Sg.step ⟨term, vote, base, bt, snap, L⟩ ⟨2, i, t, v, d⟩) (.returned (.agg #[.int .u64 base, .int .u64 bt, .string snap, .slice a n c])) w' := fun w' hb => by
    have e : Sg.step ⟨term, vote, base, bt, snap, L⟩ ⟨2, i, t, v, d⟩ = ⟨term, vote, base, bt, snap, L⟩ := by
      simp [Sg.step, hn, h1]
    rw [e]; exact ⟨a, c, by rw [← hn], hO.later hb, hb.mono hBw⟩
  have HF := Lib.hid hf; clear hf hO hn
  obtain ⟨q, hq⟩ : ∃ q, base + n = q := ⟨_, rfl⟩
  have hql : q ≤ 1099511627776 := by omega
  have g1 : ((i : Int) == (q : Int) + 1) = false := by simp; omega
  clear h1
  have e1 : IntKind.u64.wrap ((q : Int) + 1) = (q : Int) + 1 := IntWalk.u64_in _ (by omega)
  have HQ := Lib.hid hq
  go_enter Tryd.func30, Tryd.ntmps30
  go_wp2_with fail
  generalize hW : (((w.alloc (.cells #[.int .u64 base, .int .u64 bt, .string snap, .slice a n c] 34)).alloc (.cells #[.int .i64 2, .int .u64 i, .int .u64 t, .int .u64 v, .string d] 24)).alloc (.cells #[.int .u64 0, .int .u64 0, .string ⟨#[]⟩, .slice none 0 0] 34)) = W
  have b0 : W.cell? ⟨w.heap.size, 0, none⟩ = some (.int .u64 base) := by subst hW; simp [go_sem]
  have b1 : W.cell? ⟨w.heap.size, 1, none⟩ = some (.int .u64 bt) := by subst hW; simp [go_sem]
  have b2 : W.cell? ⟨w.heap.size, 2, none⟩ = some (.string snap) := by subst hW; simp [go_sem]
  have b3 : W.cell? ⟨w.heap.size, 3, none⟩ = some (.slice a n c) := by subst hW; simp [go_sem]
  have m1 : W.cell? ⟨w.heap.size + 1, 1, none⟩ = some (.int .u64 i) := by subst hW; simp [go_sem]
  have m2 : W.cell? ⟨w.heap.size + 1, 2, none⟩ = some (.int .u64 t) := by subst hW; simp [go_sem]
  have m4 : W.cell? ⟨w.heap.size + 1, 4, none⟩ = some (.string d) := by subst hW; simp [go_sem]
  have r0 : W.cell? ⟨w.heap.size + 1 + 1, 0, none⟩ = some (.int .u64 0) := by subst hW; simp [go_sem]
  have r1 : W.cell? ⟨w.heap.size + 1 + 1, 1, none⟩ = some (.int .u64 0) := by subst hW; simp [go_sem]
  have r2 : W.cell? ⟨w.heap.size + 1 + 1, 2, none⟩ = some (.string ⟨#[]⟩) := by subst hW; simp [go_sem]
  have r3 : W.cell? ⟨w.heap.size + 1 + 1, 3, none⟩ = some (.slice none 0 0) := by subst hW; simp [go_sem]
  have rz : ∀ j, W.frozen? ⟨w.heap.size + 1 + 1, j, none⟩ = false := by subst hW; intro j; simp [go_sem]
  have bz : ∀ j, W.frozen? ⟨w.heap.size, j, none⟩ = false := by subst hW; intro j; simp [go_sem]
  have hz : w.heap.size + 1 + 1 < W.heap.size := by subst hW; simp
  have hB : Below w.heap.size w W := by subst hW; go_grown
  clear hW
  clear hq
  have hz1 : w.heap.size + 1 < W.heap.size := by omega
  have hz0 : w.heap.size < W.heap.size := by omega
  have K1 : W.drew.cell? ⟨w.heap.size + 1, 1, none⟩ = some (.int .u64 i) ∧ W.drew.cell? ⟨w.heap.size, 0, none⟩ = some (.int .u64 base) ∧ W.drew.cell? ⟨w.heap.size, 1, none⟩ = some (.int .u64 bt) ∧ W.drew.cell? ⟨w.heap.size, 2, none⟩ = some (.string snap) ∧ W.drew.cell? ⟨w.heap.size, 3, none⟩ = some (.slice a n c) ∧ Below W.heap.size W W.drew := ⟨m1, b0, b1, b2, b3, (Below.refl _ _).drew⟩
  refine wp_region_held_drew (S := fun w' => w'.cell? ⟨w.heap.size + 1, 1, none⟩ = some (.int .u64 i) ∧ w'.cell? ⟨w.heap.size, 0, none⟩ = some (.int .u64 base) ∧ w'.cell? ⟨w.heap.size, 1, none⟩ = some (.int .u64 bt) ∧ w'.cell? ⟨w.heap.size, 2, none⟩ = some (.string snap) ∧ w'.cell? ⟨w.heap.size, 3, none⟩ = some (.slice a n c) ∧ Below W.heap.size W w') (by kernel_rfl) K1 (fun hHeld => ?_)
  refine wpAnyH_take (i := 0) (v := ?_) rfl (by kernel_rfl) (by kernel_rfl) (by kernel_rfl) (fun _ _ _ h => h) (Or.inl ⟨by rfl, ?hy0⟩) (by assumption) ?_
  case hy0 => (intro w0 hSw; (try dsimp only at hSw); go_simp; (try with_reducible rfl))
  try simp only [List.getElem_toArray, List.getElem_cons_zero, Act.put, List.setIfInBounds_toArray, List.set_cons_zero, List.set_cons_succ]
  refine wpAnyH_take (i := 1) (v := ?_) rfl (by kernel_rfl) (by kernel_rfl) (by kernel_rfl) (fun _ _ _ h => h) (Or.inl ⟨by rfl, ?hy1⟩) (by assumption) ?_
  case hy1 => (intro w0 hSw; (try dsimp only at hSw); go_simp; (try with_reducible rfl))
  try simp only [List.getElem_toArray, List.getElem_cons_succ, List.getElem_cons_zero, Act.put, List.setIfInBounds_toArray, List.set_cons_zero, List.set_cons_succ]
  refine wpAnyH_take (i := 2) (v := ?_) rfl (by kernel_rfl) (by kernel_rfl) (by kernel_rfl) (fun _ _ _ h => h) (Or.inl ⟨by rfl, ?hy2⟩) (by assumption) ?_
  case hy2 => (intro w0 hSw; (try dsimp only at hSw); go_simp; (try with_reducible rfl))
  try simp only [List.getElem_toArray, List.getElem_cons_succ, List.getElem_cons_zero, Act.put, List.setIfInBounds_toArray, List.set_cons_zero, List.set_cons_succ]
  refine wpAnyH_ready (rs := [3]) (by kernel_rfl) (by simp) ?_
  refine AllReadyH.cons rfl (fun K hK => ?_) AllReadyH.nil
  go_simp
  go_at_call 51
  (with_reducible refine (last_any _ _ _ _ _ _ _ (by omega) (by omega)).mono ?_)
  rintro e w2 ⟨rfl, hb2'⟩
  rw [HQ.out]
  have K2 := keepM K1 hb2' hz1 hz0
  go_wp2_with fail
  refine hK.out _ _ K2 (fun hHeld2 => ?_)
  clear hK
  try simp only [List.getElem_toArray, List.getElem_cons_succ, List.getElem_cons_zero, Act.put, List.setIfInBounds_toArray, List.set_cons_zero, List.set_cons_succ]
  refine wpAnyH_take (i := 4) (v := ?_) rfl (by kernel_rfl) (by kernel_rfl) (by kernel_rfl) (fun _ _ _ h => h) (Or.inl ⟨by rfl, ?hy4⟩) (by assumption) ?_
  case hy4 => (intro w0 hSw; (try dsimp only at hSw); go_simp; (try with_reducible rfl))
  try simp only [List.getElem_toArray, List.getElem_cons_succ, List.getElem_cons_zero, Act.put, List.setIfInBounds_toArray, List.set_cons_zero, List.set_cons_succ]
  refine wpAnyH_take (i := 5) (v := ?_) rfl (by kernel_rfl) (by kernel_rfl) (by kernel_rfl) (fun _ _ _ h => h) (Or.inl ⟨by rfl, ?hy5⟩) (by assumption) ?_
  case hy5 => (intro w0 hSw; (try dsimp only at hSw); go_simp; (try with_reducible rfl))
  try simp only [List.getElem_toArray, List.getElem_cons_succ, List.getElem_cons_zero, Act.put, List.setIfInBounds_toArray, List.set_cons_zero, List.set_cons_succ]
  refine wpAnyH_take (i := 6) (v := ?_) rfl (by kernel_rfl) (by kernel_rfl) (by kernel_rfl) (fun _ _ _ h => h) (Or.inl ⟨by rfl, ?hy6⟩) (by assumption) ?_
  case hy6 => (intro w0 hSw; (try dsimp only at hSw); go_simp; (try with_reducible rfl))
  try simp only [List.getElem_toArray, List.getElem_cons_succ, List.getElem_cons_zero, Act.put, List.setIfInBounds_toArray, List.set_cons_zero, List.set_cons_succ]
  refine wpAnyH_take (i := 7) (v := undef) rfl (by kernel_rfl) (by kernel_rfl) (by kernel_rfl) (fun _ _ _ h => h) (Or.inr ⟨by rfl, rfl⟩) (by assumption) ?_
  try simp only [List.getElem_toArray, List.getElem_cons_succ, List.getElem_cons_zero, Act.put, List.setIfInBounds_toArray, List.set_cons_zero, List.set_cons_succ]
  refine wpAnyH_take (i := 8) (v := undef) rfl (by kernel_rfl) (by kernel_rfl) (by kernel_rfl) (fun _ _ _ h => h) (Or.inr ⟨by rfl, rfl⟩) (by assumption) ?_
  try simp only [List.getElem_toArray, List.getElem_cons_succ, List.getElem_cons_zero, Act.put, List.setIfInBounds_toArray, List.set_cons_zero, List.set_cons_succ]
  refine wpAnyH_take (i := 9) (v := undef) rfl (by kernel_rfl) (by kernel_rfl) (by kernel_rfl) (fun _ _ _ h => h) (Or.inr ⟨by rfl, rfl⟩) (by assumption) ?_
  try simp only [List.getElem_toArray, List.getElem_cons_succ, List.getElem_cons_zero, Act.put, List.setIfInBounds_toArray, List.set_cons_zero, List.set_cons_succ]
  refine wpAnyH_take (i := 10) (v := ?_) rfl (by kernel_rfl) (by kernel_rfl) (by kernel_rfl) (fun _ _ _ h => h) (Or.inl ⟨by rfl, ?hy10⟩) (by assumption) ?_
  case hy10 => (intro w0 hSw; (try dsimp only at hSw); go_simp; (try with_reducible rfl))
  try simp only [List.getElem_toArray, List.getElem_cons_succ, List.getElem_cons_zero, Act.put, List.setIfInBounds_toArray, List.set_cons_zero, List.set_cons_succ]
  refine wpAnyH_take (i := 11) (v := ?_) rfl (by kernel_rfl) (by kernel_rfl) (by kernel_rfl) (fun _ _ _ h => h) (Or.inl ⟨by rfl, ?hy11⟩) (by assumption) ?_
  case hy11 => (intro w0 hSw; (try dsimp only at hSw); go_simp; (try with_reducible rfl))
  try simp only [List.getElem_toArray, List.getElem_cons_succ, List.getElem_cons_zero, Act.put, List.setIfInBounds_toArray, List.set_cons_zero, List.set_cons_succ]
  refine wpAnyH_take (i := 12) (v := undef) rfl (by kernel_rfl) (by kernel_rfl) (by kernel_rfl) (fun _ _ _ h => h) (Or.inr ⟨by rfl, rfl⟩) (by assumption) ?_
  try simp only [List.getElem_toArray, List.getElem_cons_succ, List.getElem_cons_zero, Act.put, List.setIfInBounds_toArray, List.set_cons_zero, List.set_cons_succ]
  refine wpAnyH_take (i := 13) (v := undef) rfl (by kernel_rfl) (by kernel_rfl) (by kernel_rfl) (fun _ _ _ h => h) (Or.inr ⟨by rfl, rfl⟩) (by assumption) ?_
  try simp only [List.getElem_toArray, List.getElem_cons_succ, List.getElem_cons_zero, Act.put, List.setIfInBounds_toArray, List.set_cons_zero, List.set_cons_succ]
  refine wpAnyH_take (i := 14) (v := undef) rfl (by kernel_rfl) (by kernel_rfl) (by kernel_rfl) (fun _ _ _ h => h) (Or.inr ⟨by rfl, rfl⟩) (by assumption) ?_
  try simp only [List.getElem_toArray, List.getElem_cons_succ, List.getElem_cons_zero, Act.put, List.setIfInBounds_toArray, List.set_cons_zero, List.set_cons_succ]
  refine wpAnyH_take (i := 15) (v := undef) rfl (by kernel_rfl) (by kernel_rfl) (by kernel_rfl) (fun _ _ _ h => h) (Or.inr ⟨by rfl, rfl⟩) (by assumption) ?_
  try simp only [List.getElem_toArray, List.getElem_cons_succ, List.getElem_cons_zero, Act.put, List.setIfInBounds_toArray, List.set_cons_zero, List.set_cons_succ]
  refine wpAnyH_take (i := 16) (v := ?_) rfl (by kernel_rfl) (by kernel_rfl) (by kernel_rfl) (fun _ _ _ h => h) (Or.inl ⟨by rfl, ?hy16⟩) (by assumption) ?_
  case hy16 => (intro w0 hSw; (try dsimp only at hSw); go_simp; (try with_reducible rfl))
  try simp only [List.getElem_toArray, List.getElem_cons_succ, List.getElem_cons_zero, Act.put, List.setIfInBounds_toArray, List.set_cons_zero, List.set_cons_succ]
  refine wpAnyH_done (by kernel_rfl) ?_ _
  obtain ⟨_, _, _, _, _, hb2⟩ := K2
  have C0 : w2.cell? ⟨w.heap.size, 0, none⟩ = some (.int .u64 base) := (hb2.cell (p := ⟨w.heap.size, 0, none⟩) hz0).trans b0
  have C1 : w2.cell? ⟨w.heap.size, 1, none⟩ = some (.int .u64 bt) := (hb2.cell (p := ⟨w.heap.size, 1, none⟩) hz0).trans b1
  have C2 : w2.cell? ⟨w.heap.size, 2, none⟩ = some (.string snap) := (hb2.cell (p := ⟨w.heap.size, 2, none⟩) hz0).trans b2
  have BZ : ∀ j, w2.frozen? ⟨w.heap.size, j, none⟩ = false := fun j => (hb2.frozen (p := ⟨w.heap.size, j, none⟩) hz0).trans (bz j)
  have R0 : w2.cell? ⟨w.heap.size + 1 + 1, 0, none⟩ = some (.int .u64 0) := (hb2.cell (p := ⟨w.heap.size + 1 + 1, 0, none⟩) hz).trans r0
  have R1 : w2.cell? ⟨w.heap.size + 1 + 1, 1, none⟩ = some (.int .u64 0) := (hb2.cell (p := ⟨w.heap.size + 1 + 1, 1, none⟩) hz).trans r1
  have R2 : w2.cell? ⟨w.heap.size + 1 + 1, 2, none⟩ = some (.string ⟨#[]⟩) := (hb2.cell (p := ⟨w.heap.size + 1 + 1, 2, none⟩) hz).trans r2
  have R3 : w2.cell? ⟨w.heap.size + 1 + 1, 3, none⟩ = some (.slice none 0 0) := (hb2.cell (p := ⟨w.heap.size + 1 + 1, 3, none⟩) hz).trans r3
  have RZ : ∀ j, w2.frozen? ⟨w.heap.size + 1 + 1, j, none⟩ = false := fun j => (hb2.frozen (p := ⟨w.heap.size + 1 + 1, j, none⟩) hz).trans (rz j)
  have N2 : w2.cell? ⟨w.heap.size + 1, 2, none⟩ = some (.int .u64 t) := (hb2.cell (p := ⟨w.heap.size + 1, 2, none⟩) hz1).trans m2
  have N4 : w2.cell? ⟨w.heap.size + 1, 4, none⟩ = some (.string d) := (hb2.cell (p := ⟨w.heap.size + 1, 4, none⟩) hz1).trans m4
  have B2 : Below w.heap.size w w2 := hB.trans (hb2.mono hB.size)
  have hsz : w.heap.size + 1 + 1 < w2.heap.size := Nat.lt_of_lt_of_le hz hb2.size
  have hx : w.heap.size ≤ w.heap.size + 1 + 1 := by omega
  clear b0 b1 b2 b3 r0 r1 r2 r3 rz bz m1 m2 m4 K1 hb2 hB
  go_wp2_with fail
  refine bodyPost_ret (v := .agg #[.int .u64 base, .int .u64 bt, .string snap, .slice a n c]) (by simp [results, Tryd.results30, go_sem, R0, R1, R2, R3]) rfl ?_
  exact HF.out _ ((((B2.setCell hx _).setCell hx _).setCell hx _).setCell hx _)
set_option maxRecDepth 100000 in
set_option maxHeartbeats 4000000 in
theorem appended_b (B : Nat) (term vote base bt n c : Nat) (snap : ByteArray) (a : Option Addr) (L : List En) (hn : L.length = n) (hl : n ≤ 1024) (hbn : base + n ≤ 1099511627776) (w : World) (hO : Oe B w a c L) (hBw : B ≤ w.heap.size) (i t v : Nat) (d : ByteArray) (h1 : i = base + n + 1) (h3 : ¬ i ≤ 1099511627776) :
    Calls Tryd.prog 30 #[.agg #[.int .u64 base, .int .u64 bt, .string snap, .slice a n c], .agg #[.int .i64 2, .int .u64 i, .int .u64 t, .int .u64 v, .string d]] w (LgP B w (Sg.step ⟨term, vote, base, bt, snap, L⟩ ⟨2, i, t, v, d⟩)) := by
  have hf : ∀ w', Below w.heap.size w w' → LgP B w (Sg.step ⟨term, vote, base, bt, snap, L⟩ ⟨2, i, t, v, d⟩) (.returned (.agg #[.int .u64 base, .int .u64 bt, .string snap, .slice a n c])) w' := fun w' hb => by
    have e : Sg.step ⟨term, vote, base, bt, snap, L⟩ ⟨2, i, t, v, d⟩ = ⟨term, vote, base, bt, snap, L⟩ := by
      simp [Sg.step, hn, h3]
    rw [e]; exact ⟨a, c, by rw [← hn], hO.later hb, hb.mono hBw⟩
  have HF := Lib.hid hf; clear hf hO hn
  obtain ⟨q, hq⟩ : ∃ q, base + n = q := ⟨_, rfl⟩
  have hql : q ≤ 1099511627776 := by omega
  have g1 : ((i : Int) == (q : Int) + 1) = true := by simp; omega
  have g3 : ¬ (i : Int) ≤ 1099511627776 := by omega
  have g3n : decide ((i : Int) ≤ 1099511627776) = false := by simp; omega
  clear h1 h3
  have e1 : IntKind.u64.wrap ((q : Int) + 1) = (q : Int) + 1 := IntWalk.u64_in _ (by omega)
  have HQ := Lib.hid hq
  go_enter Tryd.func30, Tryd.ntmps30
  go_wp2_with fail
  generalize hW : (((w.alloc (.cells #[.int .u64 base, .int .u64 bt, .string snap, .slice a n c] 34)).alloc (.cells #[.int .i64 2, .int .u64 i, .int .u64 t, .int .u64 v, .string d] 24)).alloc (.cells #[.int .u64 0, .int .u64 0, .string ⟨#[]⟩, .slice none 0 0] 34)) = W
  have b0 : W.cell? ⟨w.heap.size, 0, none⟩ = some (.int .u64 base) := by subst hW; simp [go_sem]
  have b1 : W.cell? ⟨w.heap.size, 1, none⟩ = some (.int .u64 bt) := by subst hW; simp [go_sem]
  have b2 : W.cell? ⟨w.heap.size, 2, none⟩ = some (.string snap) := by subst hW; simp [go_sem]
  have b3 : W.cell? ⟨w.heap.size, 3, none⟩ = some (.slice a n c) := by subst hW; simp [go_sem]
  have m1 : W.cell? ⟨w.heap.size + 1, 1, none⟩ = some (.int .u64 i) := by subst hW; simp [go_sem]
  have m2 : W.cell? ⟨w.heap.size + 1, 2, none⟩ = some (.int .u64 t) := by subst hW; simp [go_sem]
  have m4 : W.cell? ⟨w.heap.size + 1, 4, none⟩ = some (.string d) := by subst hW; simp [go_sem]
  have r0 : W.cell? ⟨w.heap.size + 1 + 1, 0, none⟩ = some (.int .u64 0) := by subst hW; simp [go_sem]
  have r1 : W.cell? ⟨w.heap.size + 1 + 1, 1, none⟩ = some (.int .u64 0) := by subst hW; simp [go_sem]
  have r2 : W.cell? ⟨w.heap.size + 1 + 1, 2, none⟩ = some (.string ⟨#[]⟩) := by subst hW; simp [go_sem]
  have r3 : W.cell? ⟨w.heap.size + 1 + 1, 3, none⟩ = some (.slice none 0 0) := by subst hW; simp [go_sem]
  have rz : ∀ j, W.frozen? ⟨w.heap.size + 1 + 1, j, none⟩ = false := by subst hW; intro j; simp [go_sem]
  have bz : ∀ j, W.frozen? ⟨w.heap.size, j, none⟩ = false := by subst hW; intro j; simp [go_sem]
  have hz : w.heap.size + 1 + 1 < W.heap.size := by subst hW; simp
  have hB : Below w.heap.size w W := by subst hW; go_grown
  clear hW
  clear hq
  have hz1 : w.heap.size + 1 < W.heap.size := by omega
  have hz0 : w.heap.size < W.heap.size := by omega
  have K1 : W.drew.cell? ⟨w.heap.size + 1, 1, none⟩ = some (.int .u64 i) ∧ W.drew.cell? ⟨w.heap.size, 0, none⟩ = some (.int .u64 base) ∧ W.drew.cell? ⟨w.heap.size, 1, none⟩ = some (.int .u64 bt) ∧ W.drew.cell? ⟨w.heap.size, 2, none⟩ = some (.string snap) ∧ W.drew.cell? ⟨w.heap.size, 3, none⟩ = some (.slice a n c) ∧ Below W.heap.size W W.drew := ⟨m1, b0, b1, b2, b3, (Below.refl _ _).drew⟩
  refine wp_region_held_drew (S := fun w' => w'.cell? ⟨w.heap.size + 1, 1, none⟩ = some (.int .u64 i) ∧ w'.cell? ⟨w.heap.size, 0, none⟩ = some (.int .u64 base) ∧ w'.cell? ⟨w.heap.size, 1, none⟩ = some (.int .u64 bt) ∧ w'.cell? ⟨w.heap.size, 2, none⟩ = some (.string snap) ∧ w'.cell? ⟨w.heap.size, 3, none⟩ = some (.slice a n c) ∧ Below W.heap.size W w') (by kernel_rfl) K1 (fun hHeld => ?_)
  refine wpAnyH_take (i := 0) (v := ?_) rfl (by kernel_rfl) (by kernel_rfl) (by kernel_rfl) (fun _ _ _ h => h) (Or.inl ⟨by rfl, ?hy0⟩) (by assumption) ?_
  case hy0 => (intro w0 hSw; (try dsimp only at hSw); go_simp; (try with_reducible rfl))
  try simp only [List.getElem_toArray, List.getElem_cons_zero, Act.put, List.setIfInBounds_toArray, List.set_cons_zero, List.set_cons_succ]
  refine wpAnyH_take (i := 1) (v := ?_) rfl (by kernel_rfl) (by kernel_rfl) (by kernel_rfl) (fun _ _ _ h => h) (Or.inl ⟨by rfl, ?hy1⟩) (by assumption) ?_
  case hy1 => (intro w0 hSw; (try dsimp only at hSw); go_simp; (try with_reducible rfl))
  try simp only [List.getElem_toArray, List.getElem_cons_succ, List.getElem_cons_zero, Act.put, List.setIfInBounds_toArray, List.set_cons_zero, List.set_cons_succ]
  refine wpAnyH_take (i := 2) (v := ?_) rfl (by kernel_rfl) (by kernel_rfl) (by kernel_rfl) (fun _ _ _ h => h) (Or.inl ⟨by rfl, ?hy2⟩) (by assumption) ?_
  case hy2 => (intro w0 hSw; (try dsimp only at hSw); go_simp; (try with_reducible rfl))
  try simp only [List.getElem_toArray, List.getElem_cons_succ, List.getElem_cons_zero, Act.put, List.setIfInBounds_toArray, List.set_cons_zero, List.set_cons_succ]
  refine wpAnyH_ready (rs := [3]) (by kernel_rfl) (by simp) ?_
  refine AllReadyH.cons rfl (fun K hK => ?_) AllReadyH.nil
  go_simp
  go_at_call 51
  (with_reducible refine (last_any _ _ _ _ _ _ _ (by omega) (by omega)).mono ?_)
  rintro e w2 ⟨rfl, hb2'⟩
  rw [HQ.out]
  have K2 := keepM K1 hb2' hz1 hz0
  go_wp2_with fail
  refine hK.out _ _ K2 (fun hHeld2 => ?_)
  clear hK
  try simp only [List.getElem_toArray, List.getElem_cons_succ, List.getElem_cons_zero, Act.put, List.setIfInBounds_toArray, List.set_cons_zero, List.set_cons_succ]
  refine wpAnyH_take (i := 4) (v := ?_) rfl (by kernel_rfl) (by kernel_rfl) (by kernel_rfl) (fun _ _ _ h => h) (Or.inl ⟨by rfl, ?hy4⟩) (by assumption) ?_
  case hy4 => (intro w0 hSw; (try dsimp only at hSw); go_simp; (try with_reducible rfl))
  try simp only [List.getElem_toArray, List.getElem_cons_succ, List.getElem_cons_zero, Act.put, List.setIfInBounds_toArray, List.set_cons_zero, List.set_cons_succ]
  refine wpAnyH_take (i := 5) (v := ?_) rfl (by kernel_rfl) (by kernel_rfl) (by kernel_rfl) (fun _ _ _ h => h) (Or.inl ⟨by rfl, ?hy5⟩) (by assumption) ?_
  case hy5 => (intro w0 hSw; (try dsimp only at hSw); go_simp; (try with_reducible rfl))
  try simp only [List.getElem_toArray, List.getElem_cons_succ, List.getElem_cons_zero, Act.put, List.setIfInBounds_toArray, List.set_cons_zero, List.set_cons_succ]
  refine wpAnyH_take (i := 6) (v := ?_) rfl (by kernel_rfl) (by kernel_rfl) (by kernel_rfl) (fun _ _ _ h => h) (Or.inl ⟨by rfl, ?hy6⟩) (by assumption) ?_
  case hy6 => (intro w0 hSw; (try dsimp only at hSw); go_simp; (try with_reducible rfl))
  try simp only [List.getElem_toArray, List.getElem_cons_succ, List.getElem_cons_zero, Act.put, List.setIfInBounds_toArray, List.set_cons_zero, List.set_cons_succ]
  refine wpAnyH_take (i := 7) (v := ?_) rfl (by kernel_rfl) (by kernel_rfl) (by kernel_rfl) (fun _ _ _ h => h) (Or.inl ⟨by rfl, ?hy7⟩) (by assumption) ?_
  case hy7 => (intro w0 hSw; (try dsimp only at hSw); go_simp; (try with_reducible rfl))
  try simp only [List.getElem_toArray, List.getElem_cons_succ, List.getElem_cons_zero, Act.put, List.setIfInBounds_toArray, List.set_cons_zero, List.set_cons_succ]
  refine wpAnyH_take (i := 8) (v := ?_) rfl (by kernel_rfl) (by kernel_rfl) (by kernel_rfl) (fun _ _ _ h => h) (Or.inl ⟨by rfl, ?hy8⟩) (by assumption) ?_
  case hy8 => (intro w0 hSw; (try dsimp only at hSw); go_simp; (try with_reducible rfl))
  try simp only [List.getElem_toArray, List.getElem_cons_succ, List.getElem_cons_zero, Act.put, List.setIfInBounds_toArray, List.set_cons_zero, List.set_cons_succ]
  refine wpAnyH_take (i := 9) (v := ?_) rfl (by kernel_rfl) (by kernel_rfl) (by kernel_rfl) (fun _ _ _ h => h) (Or.inl ⟨by rfl, ?hy9⟩) (by assumption) ?_
  case hy9 => (intro w0 hSw; (try dsimp only at hSw); go_simp; (try with_reducible rfl))
  try simp only [List.getElem_toArray, List.getElem_cons_succ, List.getElem_cons_zero, Act.put, List.setIfInBounds_toArray, List.set_cons_zero, List.set_cons_succ]
  refine wpAnyH_take (i := 10) (v := ?_) rfl (by kernel_rfl) (by kernel_rfl) (by kernel_rfl) (fun _ _ _ h => h) (Or.inl ⟨by rfl, ?hy10⟩) (by assumption) ?_
  case hy10 => (intro w0 hSw; (try dsimp only at hSw); go_simp; (try with_reducible rfl))
  try simp only [List.getElem_toArray, List.getElem_cons_succ, List.getElem_cons_zero, Act.put, List.setIfInBounds_toArray, List.set_cons_zero, List.set_cons_succ]
  refine wpAnyH_take (i := 11) (v := ?_) rfl (by kernel_rfl) (by kernel_rfl) (by kernel_rfl) (fun _ _ _ h => h) (Or.inl ⟨by rfl, ?hy11⟩) (by assumption) ?_
  case hy11 => (intro w0 hSw; (try dsimp only at hSw); go_simp; (try with_reducible rfl))
  try simp only [List.getElem_toArray, List.getElem_cons_succ, List.getElem_cons_zero, Act.put, List.setIfInBounds_toArray, List.set_cons_zero, List.set_cons_succ]
  refine wpAnyH_take (i := 12) (v := undef) rfl (by kernel_rfl) (by kernel_rfl) (by kernel_rfl) (fun _ _ _ h => h) (Or.inr ⟨by rfl, rfl⟩) (by assumption) ?_
  try simp only [List.getElem_toArray, List.getElem_cons_succ, List.getElem_cons_zero, Act.put, List.setIfInBounds_toArray, List.set_cons_zero, List.set_cons_succ]
  refine wpAnyH_take (i := 13) (v := undef) rfl (by kernel_rfl) (by kernel_rfl) (by kernel_rfl) (fun _ _ _ h => h) (Or.inr ⟨by rfl, rfl⟩) (by assumption) ?_
  try simp only [List.getElem_toArray, List.getElem_cons_succ, List.getElem_cons_zero, Act.put, List.setIfInBounds_toArray, List.set_cons_zero, List.set_cons_succ]
  refine wpAnyH_take (i := 14) (v := undef) rfl (by kernel_rfl) (by kernel_rfl) (by kernel_rfl) (fun _ _ _ h => h) (Or.inr ⟨by rfl, rfl⟩) (by assumption) ?_
  try simp only [List.getElem_toArray, List.getElem_cons_succ, List.getElem_cons_zero, Act.put, List.setIfInBounds_toArray, List.set_cons_zero, List.set_cons_succ]
  refine wpAnyH_take (i := 15) (v := undef) rfl (by kernel_rfl) (by kernel_rfl) (by kernel_rfl) (fun _ _ _ h => h) (Or.inr ⟨by rfl, rfl⟩) (by assumption) ?_
  try simp only [List.getElem_toArray, List.getElem_cons_succ, List.getElem_cons_zero, Act.put, List.setIfInBounds_toArray, List.set_cons_zero, List.set_cons_succ]
  refine wpAnyH_take (i := 16) (v := ?_) rfl (by kernel_rfl) (by kernel_rfl) (by kernel_rfl) (fun _ _ _ h => h) (Or.inl ⟨by rfl, ?hy16⟩) (by assumption) ?_
  case hy16 => (intro w0 hSw; (try dsimp only at hSw); go_simp; (try with_reducible rfl))
  try simp only [List.getElem_toArray, List.getElem_cons_succ, List.getElem_cons_zero, Act.put, List.setIfInBounds_toArray, List.set_cons_zero, List.set_cons_succ]
  refine wpAnyH_done (by kernel_rfl) ?_ _
  obtain ⟨_, _, _, _, _, hb2⟩ := K2
  have C0 : w2.cell? ⟨w.heap.size, 0, none⟩ = some (.int .u64 base) := (hb2.cell (p := ⟨w.heap.size, 0, none⟩) hz0).trans b0
  have C1 : w2.cell? ⟨w.heap.size, 1, none⟩ = some (.int .u64 bt) := (hb2.cell (p := ⟨w.heap.size, 1, none⟩) hz0).trans b1
  have C2 : w2.cell? ⟨w.heap.size, 2, none⟩ = some (.string snap) := (hb2.cell (p := ⟨w.heap.size, 2, none⟩) hz0).trans b2
  have BZ : ∀ j, w2.frozen? ⟨w.heap.size, j, none⟩ = false := fun j => (hb2.frozen (p := ⟨w.heap.size, j, none⟩) hz0).trans (bz j)
  have R0 : w2.cell? ⟨w.heap.size + 1 + 1, 0, none⟩ = some (.int .u64 0) := (hb2.cell (p := ⟨w.heap.size + 1 + 1, 0, none⟩) hz).trans r0
  have R1 : w2.cell? ⟨w.heap.size + 1 + 1, 1, none⟩ = some (.int .u64 0) := (hb2.cell (p := ⟨w.heap.size + 1 + 1, 1, none⟩) hz).trans r1
  have R2 : w2.cell? ⟨w.heap.size + 1 + 1, 2, none⟩ = some (.string ⟨#[]⟩) := (hb2.cell (p := ⟨w.heap.size + 1 + 1, 2, none⟩) hz).trans r2
  have R3 : w2.cell? ⟨w.heap.size + 1 + 1, 3, none⟩ = some (.slice none 0 0) := (hb2.cell (p := ⟨w.heap.size + 1 + 1, 3, none⟩) hz).trans r3
  have RZ : ∀ j, w2.frozen? ⟨w.heap.size + 1 + 1, j, none⟩ = false := fun j => (hb2.frozen (p := ⟨w.heap.size + 1 + 1, j, none⟩) hz).trans (rz j)
  have N2 : w2.cell? ⟨w.heap.size + 1, 2, none⟩ = some (.int .u64 t) := (hb2.cell (p := ⟨w.heap.size + 1, 2, none⟩) hz1).trans m2
  have N4 : w2.cell? ⟨w.heap.size + 1, 4, none⟩ = some (.string d) := (hb2.cell (p := ⟨w.heap.size + 1, 4, none⟩) hz1).trans m4
  have B2 : Below w.heap.size w w2 := hB.trans (hb2.mono hB.size)
  have hsz : w.heap.size + 1 + 1 < w2.heap.size := Nat.lt_of_lt_of_le hz hb2.size
  have hx : w.heap.size ≤ w.heap.size + 1 + 1 := by omega
  clear b0 b1 b2 b3 r0 r1 r2 r3 rz bz m1 m2 m4 K1 hb2 hB
  go_wp2_with fail
  refine bodyPost_ret (v := .agg #[.int .u64 base, .int .u64 bt, .string snap, .slice a n c]) (by simp [results, Tryd.results30, go_sem, R0, R1, R2, R3]) rfl ?_
  exact HF.out _ ((((B2.setCell hx _).setCell hx _).setCell hx _).setCell hx _)
set_option maxRecDepth 100000 in
set_option maxHeartbeats 4000000 in
theorem appended_c (B : Nat) (term vote base bt n c : Nat) (snap : ByteArray) (a : Option Addr) (L : List En) (hn : L.length = n) (hl : n ≤ 1024) (hbn : base + n ≤ 1099511627776) (w : World) (hO : Oe B w a c L) (hBw : B ≤ w.heap.size) (i t v : Nat) (d : ByteArray) (h1 : i = base + n + 1) (h3 : i ≤ 1099511627776) (h2 : ¬ n < 1024) :
    Calls Tryd.prog 30 #[.agg #[.int .u64 base, .int .u64 bt, .string snap, .slice a n c], .agg #[.int .i64 2, .int .u64 i, .int .u64 t, .int .u64 v, .string d]] w (LgP B w (Sg.step ⟨term, vote, base, bt, snap, L⟩ ⟨2, i, t, v, d⟩)) := by
  have hf : ∀ w', Below w.heap.size w w' → LgP B w (Sg.step ⟨term, vote, base, bt, snap, L⟩ ⟨2, i, t, v, d⟩) (.returned (.agg #[.int .u64 base, .int .u64 bt, .string snap, .slice a n c])) w' := fun w' hb => by
    have e : Sg.step ⟨term, vote, base, bt, snap, L⟩ ⟨2, i, t, v, d⟩ = ⟨term, vote, base, bt, snap, L⟩ := by
      simp [Sg.step, hn, h2]
    rw [e]; exact ⟨a, c, by rw [← hn], hO.later hb, hb.mono hBw⟩
  have HF := Lib.hid hf; clear hf hO hn
  obtain ⟨q, hq⟩ : ∃ q, base + n = q := ⟨_, rfl⟩
  have hql : q ≤ 1099511627776 := by omega
  have g1 : ((i : Int) == (q : Int) + 1) = true := by simp; omega
  have g3 : (i : Int) ≤ 1099511627776 := by omega
  have g2 : ¬ (n : Int) < 1024 := by omega
  clear h1 h3 h2
  have e1 : IntKind.u64.wrap ((q : Int) + 1) = (q : Int) + 1 := IntWalk.u64_in _ (by omega)
  have HQ := Lib.hid hq
  go_enter Tryd.func30, Tryd.ntmps30
  go_wp2_with fail
  generalize hW : (((w.alloc (.cells #[.int .u64 base, .int .u64 bt, .string snap, .slice a n c] 34)).alloc (.cells #[.int .i64 2, .int .u64 i, .int .u64 t, .int .u64 v, .string d] 24)).alloc (.cells #[.int .u64 0, .int .u64 0, .string ⟨#[]⟩, .slice none 0 0] 34)) = W
  have b0 : W.cell? ⟨w.heap.size, 0, none⟩ = some (.int .u64 base) := by subst hW; simp [go_sem]
  have b1 : W.cell? ⟨w.heap.size, 1, none⟩ = some (.int .u64 bt) := by subst hW; simp [go_sem]
  have b2 : W.cell? ⟨w.heap.size, 2, none⟩ = some (.string snap) := by subst hW; simp [go_sem]
  have b3 : W.cell? ⟨w.heap.size, 3, none⟩ = some (.slice a n c) := by subst hW; simp [go_sem]
  have m1 : W.cell? ⟨w.heap.size + 1, 1, none⟩ = some (.int .u64 i) := by subst hW; simp [go_sem]
  have m2 : W.cell? ⟨w.heap.size + 1, 2, none⟩ = some (.int .u64 t) := by subst hW; simp [go_sem]
  have m4 : W.cell? ⟨w.heap.size + 1, 4, none⟩ = some (.string d) := by subst hW; simp [go_sem]
  have r0 : W.cell? ⟨w.heap.size + 1 + 1, 0, none⟩ = some (.int .u64 0) := by subst hW; simp [go_sem]
  have r1 : W.cell? ⟨w.heap.size + 1 + 1, 1, none⟩ = some (.int .u64 0) := by subst hW; simp [go_sem]
  have r2 : W.cell? ⟨w.heap.size + 1 + 1, 2, none⟩ = some (.string ⟨#[]⟩) := by subst hW; simp [go_sem]
  have r3 : W.cell? ⟨w.heap.size + 1 + 1, 3, none⟩ = some (.slice none 0 0) := by subst hW; simp [go_sem]
  have rz : ∀ j, W.frozen? ⟨w.heap.size + 1 + 1, j, none⟩ = false := by subst hW; intro j; simp [go_sem]
  have bz : ∀ j, W.frozen? ⟨w.heap.size, j, none⟩ = false := by subst hW; intro j; simp [go_sem]
  have hz : w.heap.size + 1 + 1 < W.heap.size := by subst hW; simp
  have hB : Below w.heap.size w W := by subst hW; go_grown
  clear hW
  clear hq
  have hz1 : w.heap.size + 1 < W.heap.size := by omega
  have hz0 : w.heap.size < W.heap.size := by omega
  have K1 : W.drew.cell? ⟨w.heap.size + 1, 1, none⟩ = some (.int .u64 i) ∧ W.drew.cell? ⟨w.heap.size, 0, none⟩ = some (.int .u64 base) ∧ W.drew.cell? ⟨w.heap.size, 1, none⟩ = some (.int .u64 bt) ∧ W.drew.cell? ⟨w.heap.size, 2, none⟩ = some (.string snap) ∧ W.drew.cell? ⟨w.heap.size, 3, none⟩ = some (.slice a n c) ∧ Below W.heap.size W W.drew := ⟨m1, b0, b1, b2, b3, (Below.refl _ _).drew⟩
  refine wp_region_held_drew (S := fun w' => w'.cell? ⟨w.heap.size + 1, 1, none⟩ = some (.int .u64 i) ∧ w'.cell? ⟨w.heap.size, 0, none⟩ = some (.int .u64 base) ∧ w'.cell? ⟨w.heap.size, 1, none⟩ = some (.int .u64 bt) ∧ w'.cell? ⟨w.heap.size, 2, none⟩ = some (.string snap) ∧ w'.cell? ⟨w.heap.size, 3, none⟩ = some (.slice a n c) ∧ Below W.heap.size W w') (by kernel_rfl) K1 (fun hHeld => ?_)
  refine wpAnyH_take (i := 0) (v := ?_) rfl (by kernel_rfl) (by kernel_rfl) (by kernel_rfl) (fun _ _ _ h => h) (Or.inl ⟨by rfl, ?hy0⟩) (by assumption) ?_
  case hy0 => (intro w0 hSw; (try dsimp only at hSw); go_simp; (try with_reducible rfl))
  try simp only [List.getElem_toArray, List.getElem_cons_zero, Act.put, List.setIfInBounds_toArray, List.set_cons_zero, List.set_cons_succ]
  refine wpAnyH_take (i := 1) (v := ?_) rfl (by kernel_rfl) (by kernel_rfl) (by kernel_rfl) (fun _ _ _ h => h) (Or.inl ⟨by rfl, ?hy1⟩) (by assumption) ?_
  case hy1 => (intro w0 hSw; (try dsimp only at hSw); go_simp; (try with_reducible rfl))
  try simp only [List.getElem_toArray, List.getElem_cons_succ, List.getElem_cons_zero, Act.put, List.setIfInBounds_toArray, List.set_cons_zero, List.set_cons_succ]
  refine wpAnyH_take (i := 2) (v := ?_) rfl (by kernel_rfl) (by kernel_rfl) (by kernel_rfl) (fun _ _ _ h => h) (Or.inl ⟨by rfl, ?hy2⟩) (by assumption) ?_
  case hy2 => (intro w0 hSw; (try dsimp only at hSw); go_simp; (try with_reducible rfl))
  try simp only [List.getElem_toArray, List.getElem_cons_succ, List.getElem_cons_zero, Act.put, List.setIfInBounds_toArray, List.set_cons_zero, List.set_cons_succ]
  refine wpAnyH_ready (rs := [3]) (by kernel_rfl) (by simp) ?_
  refine AllReadyH.cons rfl (fun K hK => ?_) AllReadyH.nil
  go_simp
  go_at_call 51
  (with_reducible refine (last_any _ _ _ _ _ _ _ (by omega) (by omega)).mono ?_)
  rintro e w2 ⟨rfl, hb2'⟩
  rw [HQ.out]
  have K2 := keepM K1 hb2' hz1 hz0
  go_wp2_with fail
  refine hK.out _ _ K2 (fun hHeld2 => ?_)
  clear hK
  try simp only [List.getElem_toArray, List.getElem_cons_succ, List.getElem_cons_zero, Act.put, List.setIfInBounds_toArray, List.set_cons_zero, List.set_cons_succ]
  refine wpAnyH_take (i := 4) (v := ?_) rfl (by kernel_rfl) (by kernel_rfl) (by kernel_rfl) (fun _ _ _ h => h) (Or.inl ⟨by rfl, ?hy4⟩) (by assumption) ?_
  case hy4 => (intro w0 hSw; (try dsimp only at hSw); go_simp; (try with_reducible rfl))
  try simp only [List.getElem_toArray, List.getElem_cons_succ, List.getElem_cons_zero, Act.put, List.setIfInBounds_toArray, List.set_cons_zero, List.set_cons_succ]
  refine wpAnyH_take (i := 5) (v := ?_) rfl (by kernel_rfl) (by kernel_rfl) (by kernel_rfl) (fun _ _ _ h => h) (Or.inl ⟨by rfl, ?hy5⟩) (by assumption) ?_
  case hy5 => (intro w0 hSw; (try dsimp only at hSw); go_simp; (try with_reducible rfl))
  try simp only [List.getElem_toArray, List.getElem_cons_succ, List.getElem_cons_zero, Act.put, List.setIfInBounds_toArray, List.set_cons_zero, List.set_cons_succ]
  refine wpAnyH_take (i := 6) (v := ?_) rfl (by kernel_rfl) (by kernel_rfl) (by kernel_rfl) (fun _ _ _ h => h) (Or.inl ⟨by rfl, ?hy6⟩) (by assumption) ?_
  case hy6 => (intro w0 hSw; (try dsimp only at hSw); go_simp; (try with_reducible rfl))
  try simp only [List.getElem_toArray, List.getElem_cons_succ, List.getElem_cons_zero, Act.put, List.setIfInBounds_toArray, List.set_cons_zero, List.set_cons_succ]
  refine wpAnyH_take (i := 7) (v := ?_) rfl (by kernel_rfl) (by kernel_rfl) (by kernel_rfl) (fun _ _ _ h => h) (Or.inl ⟨by rfl, ?hy7⟩) (by assumption) ?_
  case hy7 => (intro w0 hSw; (try dsimp only at hSw); go_simp; (try with_reducible rfl))
  try simp only [List.getElem_toArray, List.getElem_cons_succ, List.getElem_cons_zero, Act.put, List.setIfInBounds_toArray, List.set_cons_zero, List.set_cons_succ]
  refine wpAnyH_take (i := 8) (v := ?_) rfl (by kernel_rfl) (by kernel_rfl) (by kernel_rfl) (fun _ _ _ h => h) (Or.inl ⟨by rfl, ?hy8⟩) (by assumption) ?_
  case hy8 => (intro w0 hSw; (try dsimp only at hSw); go_simp; (try with_reducible rfl))
  try simp only [List.getElem_toArray, List.getElem_cons_succ, List.getElem_cons_zero, Act.put, List.setIfInBounds_toArray, List.set_cons_zero, List.set_cons_succ]
  refine wpAnyH_take (i := 9) (v := ?_) rfl (by kernel_rfl) (by kernel_rfl) (by kernel_rfl) (fun _ _ _ h => h) (Or.inl ⟨by rfl, ?hy9⟩) (by assumption) ?_
  case hy9 => (intro w0 hSw; (try dsimp only at hSw); go_simp; (try with_reducible rfl))
  try simp only [List.getElem_toArray, List.getElem_cons_succ, List.getElem_cons_zero, Act.put, List.setIfInBounds_toArray, List.set_cons_zero, List.set_cons_succ]
  refine wpAnyH_take (i := 10) (v := ?_) rfl (by kernel_rfl) (by kernel_rfl) (by kernel_rfl) (fun _ _ _ h => h) (Or.inl ⟨by rfl, ?hy10⟩) (by assumption) ?_
  case hy10 => (intro w0 hSw; (try dsimp only at hSw); go_simp; (try with_reducible rfl))
  try simp only [List.getElem_toArray, List.getElem_cons_succ, List.getElem_cons_zero, Act.put, List.setIfInBounds_toArray, List.set_cons_zero, List.set_cons_succ]
  refine wpAnyH_take (i := 11) (v := ?_) rfl (by kernel_rfl) (by kernel_rfl) (by kernel_rfl) (fun _ _ _ h => h) (Or.inl ⟨by rfl, ?hy11⟩) (by assumption) ?_
  case hy11 => (intro w0 hSw; (try dsimp only at hSw); go_simp; (try with_reducible rfl))
  try simp only [List.getElem_toArray, List.getElem_cons_succ, List.getElem_cons_zero, Act.put, List.setIfInBounds_toArray, List.set_cons_zero, List.set_cons_succ]
  refine wpAnyH_take (i := 12) (v := ?_) rfl (by kernel_rfl) (by kernel_rfl) (by kernel_rfl) (fun _ _ _ h => h) (Or.inl ⟨by rfl, ?hy12⟩) (by assumption) ?_
  case hy12 => (intro w0 hSw; (try dsimp only at hSw); go_simp; (try with_reducible rfl))
  try simp only [List.getElem_toArray, List.getElem_cons_succ, List.getElem_cons_zero, Act.put, List.setIfInBounds_toArray, List.set_cons_zero, List.set_cons_succ]
  refine wpAnyH_take (i := 13) (v := ?_) rfl (by kernel_rfl) (by kernel_rfl) (by kernel_rfl) (fun _ _ _ h => h) (Or.inl ⟨by rfl, ?hy13⟩) (by assumption) ?_
  case hy13 => (intro w0 hSw; (try dsimp only at hSw); go_simp; (try with_reducible rfl))
  try simp only [List.getElem_toArray, List.getElem_cons_succ, List.getElem_cons_zero, Act.put, List.setIfInBounds_toArray, List.set_cons_zero, List.set_cons_succ]
  refine wpAnyH_take (i := 14) (v := ?_) rfl (by kernel_rfl) (by kernel_rfl) (by kernel_rfl) (fun _ _ _ h => h) (Or.inl ⟨by rfl, ?hy14⟩) (by assumption) ?_
  case hy14 => (intro w0 hSw; (try dsimp only at hSw); go_simp; (try with_reducible rfl))
  try simp only [List.getElem_toArray, List.getElem_cons_succ, List.getElem_cons_zero, Act.put, List.setIfInBounds_toArray, List.set_cons_zero, List.set_cons_succ]
  refine wpAnyH_take (i := 15) (v := ?_) rfl (by kernel_rfl) (by kernel_rfl) (by kernel_rfl) (fun _ _ _ h => h) (Or.inl ⟨by rfl, ?hy15⟩) (by assumption) ?_
  case hy15 => (intro w0 hSw; (try dsimp only at hSw); go_simp; (try with_reducible rfl))
  try simp only [List.getElem_toArray, List.getElem_cons_succ, List.getElem_cons_zero, Act.put, List.setIfInBounds_toArray, List.set_cons_zero, List.set_cons_succ]
  refine wpAnyH_take (i := 16) (v := ?_) rfl (by kernel_rfl) (by kernel_rfl) (by kernel_rfl) (fun _ _ _ h => h) (Or.inl ⟨by rfl, ?hy16⟩) (by assumption) ?_
  case hy16 => (intro w0 hSw; (try dsimp only at hSw); go_simp; (try with_reducible rfl))
  try simp only [List.getElem_toArray, List.getElem_cons_succ, List.getElem_cons_zero, Act.put, List.setIfInBounds_toArray, List.set_cons_zero, List.set_cons_succ]
  refine wpAnyH_done (by kernel_rfl) ?_ _
  obtain ⟨_, _, _, _, _, hb2⟩ := K2
  have C0 : w2.cell? ⟨w.heap.size, 0, none⟩ = some (.int .u64 base) := (hb2.cell (p := ⟨w.heap.size, 0, none⟩) hz0).trans b0
  have C1 : w2.cell? ⟨w.heap.size, 1, none⟩ = some (.int .u64 bt) := (hb2.cell (p := ⟨w.heap.size, 1, none⟩) hz0).trans b1
  have C2 : w2.cell? ⟨w.heap.size, 2, none⟩ = some (.string snap) := (hb2.cell (p := ⟨w.heap.size, 2, none⟩) hz0).trans b2
  have BZ : ∀ j, w2.frozen? ⟨w.heap.size, j, none⟩ = false := fun j => (hb2.frozen (p := ⟨w.heap.size, j, none⟩) hz0).trans (bz j)
  have R0 : w2.cell? ⟨w.heap.size + 1 + 1, 0, none⟩ = some (.int .u64 0) := (hb2.cell (p := ⟨w.heap.size + 1 + 1, 0, none⟩) hz).trans r0
  have R1 : w2.cell? ⟨w.heap.size + 1 + 1, 1, none⟩ = some (.int .u64 0) := (hb2.cell (p := ⟨w.heap.size + 1 + 1, 1, none⟩) hz).trans r1
  have R2 : w2.cell? ⟨w.heap.size + 1 + 1, 2, none⟩ = some (.string ⟨#[]⟩) := (hb2.cell (p := ⟨w.heap.size + 1 + 1, 2, none⟩) hz).trans r2
  have R3 : w2.cell? ⟨w.heap.size + 1 + 1, 3, none⟩ = some (.slice none 0 0) := (hb2.cell (p := ⟨w.heap.size + 1 + 1, 3, none⟩) hz).trans r3
  have RZ : ∀ j, w2.frozen? ⟨w.heap.size + 1 + 1, j, none⟩ = false := fun j => (hb2.frozen (p := ⟨w.heap.size + 1 + 1, j, none⟩) hz).trans (rz j)
  have N2 : w2.cell? ⟨w.heap.size + 1, 2, none⟩ = some (.int .u64 t) := (hb2.cell (p := ⟨w.heap.size + 1, 2, none⟩) hz1).trans m2
  have N4 : w2.cell? ⟨w.heap.size + 1, 4, none⟩ = some (.string d) := (hb2.cell (p := ⟨w.heap.size + 1, 4, none⟩) hz1).trans m4
  have B2 : Below w.heap.size w w2 := hB.trans (hb2.mono hB.size)
  have hsz : w.heap.size + 1 + 1 < w2.heap.size := Nat.lt_of_lt_of_le hz hb2.size
  have hx : w.heap.size ≤ w.heap.size + 1 + 1 := by omega
  clear b0 b1 b2 b3 r0 r1 r2 r3 rz bz m1 m2 m4 K1 hb2 hB
  go_wp2_with fail
  refine bodyPost_ret (v := .agg #[.int .u64 base, .int .u64 bt, .string snap, .slice a n c]) (by simp [results, Tryd.results30, go_sem, R0, R1, R2, R3]) rfl ?_
  exact HF.out _ ((((B2.setCell hx _).setCell hx _).setCell hx _).setCell hx _)
end Go.Proofs.YtjbhnkigbobhiaaDoor
/- The program's log: appended, where an entry is appended. -/
namespace Go.Proofs.YtjbhnkigbobhiaaDoor
open Go.RowKit

theorem news_at {w : World} {L : List Value} {t : TypeId} {j : Nat} {u : Value} (hj : L[j]? = some u) : (w.alloc (.cells L.toArray t)).cell? ⟨w.heap.size, j, none⟩ = some u :=
  (World.cell?_alloc_new _ _ _ _).trans (by rw [List.getElem?_toArray]; exact hj)
set_option maxRecDepth 100000 in
set_option maxHeartbeats 4000000 in
theorem appended_d (B : Nat) (term vote base bt n c : Nat) (snap : ByteArray) (a : Option Addr) (L : List En) (hn : L.length = n) (hl : n ≤ 1024) (hbn : base + n ≤ 1099511627776) (w : World) (hO : Oe B w a c L) (hBw : B ≤ w.heap.size) (i t v : Nat) (d : ByteArray) (h1 : i = base + n + 1) (h3 : i ≤ 1099511627776) (h2 : n < 1024) :
    Calls Tryd.prog 30 #[.agg #[.int .u64 base, .int .u64 bt, .string snap, .slice a n c], .agg #[.int .i64 2, .int .u64 i, .int .u64 t, .int .u64 v, .string d]] w (LgP B w (Sg.step ⟨term, vote, base, bt, snap, L⟩ ⟨2, i, t, v, d⟩)) := by
  have hstep : Sg.step ⟨term, vote, base, bt, snap, L⟩ ⟨2, i, t, v, d⟩ = ⟨term, vote, base, bt, snap, L ++ [⟨t, d⟩]⟩ := by
    simp [Sg.step, hn, h1, h2]; omega
  rw [hstep]
  clear hstep
  have HN := Lib.hid hn; clear hn
  have HO := Lib.hid hO; clear hO
  obtain ⟨q, hq⟩ : ∃ q, base + n = q := ⟨_, rfl⟩
  have hql : q ≤ 1099511627776 := by omega
  have g1 : ((i : Int) == (q : Int) + 1) = true := by simp; omega
  have g3 : (i : Int) ≤ 1099511627776 := by omega
  have g2 : (n : Int) < 1024 := by omega
  clear h1 h3 h2
  have e1 : IntKind.u64.wrap ((q : Int) + 1) = (q : Int) + 1 := IntWalk.u64_in _ (by omega)
  have HQ := Lib.hid hq
  go_enter Tryd.func30, Tryd.ntmps30
  go_wp2_with fail
  generalize hW : (((w.alloc (.cells #[.int .u64 base, .int .u64 bt, .string snap, .slice a n c] 34)).alloc (.cells #[.int .i64 2, .int .u64 i, .int .u64 t, .int .u64 v, .string d] 24)).alloc (.cells #[.int .u64 0, .int .u64 0, .string ⟨#[]⟩, .slice none 0 0] 34)) = W
  have b0 : W.cell? ⟨w.heap.size, 0, none⟩ = some (.int .u64 base) := by subst hW; simp [go_sem]
  have b1 : W.cell? ⟨w.heap.size, 1, none⟩ = some (.int .u64 bt) := by subst hW; simp [go_sem]
  have b2 : W.cell? ⟨w.heap.size, 2, none⟩ = some (.string snap) := by subst hW; simp [go_sem]
  have b3 : W.cell? ⟨w.heap.size, 3, none⟩ = some (.slice a n c) := by subst hW; simp [go_sem]
  have m1 : W.cell? ⟨w.heap.size + 1, 1, none⟩ = some (.int .u64 i) := by subst hW; simp [go_sem]
  have m2 : W.cell? ⟨w.heap.size + 1, 2, none⟩ = some (.int .u64 t) := by subst hW; simp [go_sem]
  have m4 : W.cell? ⟨w.heap.size + 1, 4, none⟩ = some (.string d) := by subst hW; simp [go_sem]
  have r0 : W.cell? ⟨w.heap.size + 1 + 1, 0, none⟩ = some (.int .u64 0) := by subst hW; simp [go_sem]
  have r1 : W.cell? ⟨w.heap.size + 1 + 1, 1, none⟩ = some (.int .u64 0) := by subst hW; simp [go_sem]
  have r2 : W.cell? ⟨w.heap.size + 1 + 1, 2, none⟩ = some (.string ⟨#[]⟩) := by subst hW; simp [go_sem]
  have r3 : W.cell? ⟨w.heap.size + 1 + 1, 3, none⟩ = some (.slice none 0 0) := by subst hW; simp [go_sem]
  have rz : ∀ j, W.frozen? ⟨w.heap.size + 1 + 1, j, none⟩ = false := by subst hW; intro j; simp [go_sem]
  have bz : ∀ j, W.frozen? ⟨w.heap.size, j, none⟩ = false := by subst hW; intro j; simp [go_sem]
  have hz : w.heap.size + 1 + 1 < W.heap.size := by subst hW; simp
  have hB : Below w.heap.size w W := by subst hW; go_grown
  clear hW
  clear hq
  have hz1 : w.heap.size + 1 < W.heap.size := by omega
  have hz0 : w.heap.size < W.heap.size := by omega
  have K1 : W.drew.cell? ⟨w.heap.size + 1, 1, none⟩ = some (.int .u64 i) ∧ W.drew.cell? ⟨w.heap.size, 0, none⟩ = some (.int .u64 base) ∧ W.drew.cell? ⟨w.heap.size, 1, none⟩ = some (.int .u64 bt) ∧ W.drew.cell? ⟨w.heap.size, 2, none⟩ = some (.string snap) ∧ W.drew.cell? ⟨w.heap.size, 3, none⟩ = some (.slice a n c) ∧ Below W.heap.size W W.drew := ⟨m1, b0, b1, b2, b3, (Below.refl _ _).drew⟩
  first | (go_region_held3 (fun w' => w'.cell? ⟨w.heap.size + 1, 1, none⟩ = some (.int .u64 i) ∧ w'.cell? ⟨w.heap.size, 0, none⟩ = some (.int .u64 base) ∧ w'.cell? ⟨w.heap.size, 1, none⟩ = some (.int .u64 bt) ∧ w'.cell? ⟨w.heap.size, 2, none⟩ = some (.string snap) ∧ w'.cell? ⟨w.heap.size, 3, none⟩ = some (.slice a n c) ∧ Below W.heap.size W w')
    (first | (with_reducible assumption) | go_keep)
    ((go_at_call 51; (with_reducible refine (last_any _ _ _ _ _ _ _ (by omega) (by omega)).mono ?_); rintro e w2 ⟨rfl, hb2'⟩; rw [HQ.out]; have K2 := keepM ‹_ ∧ _› hb2' hz1 hz0))) | fail
  obtain ⟨_, C0, C1, C2, C3, hb2⟩ := K2
  have BZ : ∀ j, w2.frozen? ⟨w.heap.size, j, none⟩ = false := fun j => (hb2.frozen (p := ⟨w.heap.size, j, none⟩) hz0).trans (bz j)
  have R0 : w2.cell? ⟨w.heap.size + 1 + 1, 0, none⟩ = some (.int .u64 0) := (hb2.cell (p := ⟨w.heap.size + 1 + 1, 0, none⟩) hz).trans r0
  have R1 : w2.cell? ⟨w.heap.size + 1 + 1, 1, none⟩ = some (.int .u64 0) := (hb2.cell (p := ⟨w.heap.size + 1 + 1, 1, none⟩) hz).trans r1
  have R2 : w2.cell? ⟨w.heap.size + 1 + 1, 2, none⟩ = some (.string ⟨#[]⟩) := (hb2.cell (p := ⟨w.heap.size + 1 + 1, 2, none⟩) hz).trans r2
  have R3 : w2.cell? ⟨w.heap.size + 1 + 1, 3, none⟩ = some (.slice none 0 0) := (hb2.cell (p := ⟨w.heap.size + 1 + 1, 3, none⟩) hz).trans r3
  have RZ : ∀ j, w2.frozen? ⟨w.heap.size + 1 + 1, j, none⟩ = false := fun j => (hb2.frozen (p := ⟨w.heap.size + 1 + 1, j, none⟩) hz).trans (rz j)
  have N2 : w2.cell? ⟨w.heap.size + 1, 2, none⟩ = some (.int .u64 t) := (hb2.cell (p := ⟨w.heap.size + 1, 2, none⟩) hz1).trans m2
  have N4 : w2.cell? ⟨w.heap.size + 1, 4, none⟩ = some (.string d) := (hb2.cell (p := ⟨w.heap.size + 1, 4, none⟩) hz1).trans m4
  have B2 : Below w.heap.size w w2 := hB.trans (hb2.mono hB.size)
  have hsz : w.heap.size + 1 + 1 < w2.heap.size := Nat.lt_of_lt_of_le hz hb2.size
  have hx : w.heap.size ≤ w.heap.size + 1 + 1 := by omega
  clear b0 b1 b2 b3 r0 r1 r2 r3 rz bz m1 m2 m4 K1 hb2 hB
  have hlt : ∀ q, a = some q → q.block < w.heap.size := fun q e => (HO.out.far q e).2
  obtain ⟨a', c', w3, row, hr, hO3, hg, hrow, hfw⟩ := app_oe B (w2.alloc (.cells #[.int .u64 t, .string d] 65)) 32 a n c L HN.out ((HO.out.later B2).later ((Below.refl _ _).alloc (Nat.le_refl _) _)) hl ⟨w2.heap.size, 0, none⟩ 1 ⟨t, d⟩ (fun j u hj => by rw [addHead]; exact news_at hj) (by have := B2.size; simp; omega)
  have hz0w : w.heap.size < w2.heap.size := by omega
  have hne : ∀ k, w.heap.size ≤ k → some k ≠ row := fun k hk e => by
    obtain ⟨q, e1, e2⟩ := hrow k e.symm
    have := hlt q e1; omega
  have hb3 : ∀ k, w.heap.size ≤ k → k < w2.heap.size → w3.heap[k]? = w2.heap[k]? := fun k h1 h2 => (hg.block k (by simp; omega) (hne k h1)).trans (Below.heap_alloc _ _ k h2)
  have D0 : w3.cell? ⟨w.heap.size, 0, none⟩ = some (.int .u64 base) := (World.cell?_of_block (w := w2) (a := ⟨w.heap.size, 0, none⟩) (hb3 w.heap.size (Nat.le_refl _) hz0w)).trans C0
  have D1 : w3.cell? ⟨w.heap.size, 1, none⟩ = some (.int .u64 bt) := (World.cell?_of_block (w := w2) (a := ⟨w.heap.size, 1, none⟩) (hb3 w.heap.size (Nat.le_refl _) hz0w)).trans C1
  have D2 : w3.cell? ⟨w.heap.size, 2, none⟩ = some (.string snap) := (World.cell?_of_block (w := w2) (a := ⟨w.heap.size, 2, none⟩) (hb3 w.heap.size (Nat.le_refl _) hz0w)).trans C2
  have D3 : w3.cell? ⟨w.heap.size, 3, none⟩ = some (.slice a n c) := (World.cell?_of_block (w := w2) (a := ⟨w.heap.size, 3, none⟩) (hb3 w.heap.size (Nat.le_refl _) hz0w)).trans C3
  have DZ : ∀ j, w3.frozen? ⟨w.heap.size, j, none⟩ = false := fun j => (World.frozen?_of_block (w := w2) (a := ⟨w.heap.size, j, none⟩) (hb3 w.heap.size (Nat.le_refl _) hz0w)).trans (BZ j)
  have S0 : w3.cell? ⟨w.heap.size + 1 + 1, 0, none⟩ = some (.int .u64 0) := (World.cell?_of_block (w := w2) (a := ⟨w.heap.size + 1 + 1, 0, none⟩) (hb3 (w.heap.size + 1 + 1) hx hsz)).trans R0
  have S1 : w3.cell? ⟨w.heap.size + 1 + 1, 1, none⟩ = some (.int .u64 0) := (World.cell?_of_block (w := w2) (a := ⟨w.heap.size + 1 + 1, 1, none⟩) (hb3 (w.heap.size + 1 + 1) hx hsz)).trans R1
  have S2 : w3.cell? ⟨w.heap.size + 1 + 1, 2, none⟩ = some (.string ⟨#[]⟩) := (World.cell?_of_block (w := w2) (a := ⟨w.heap.size + 1 + 1, 2, none⟩) (hb3 (w.heap.size + 1 + 1) hx hsz)).trans R2
  have S3 : w3.cell? ⟨w.heap.size + 1 + 1, 3, none⟩ = some (.slice none 0 0) := (World.cell?_of_block (w := w2) (a := ⟨w.heap.size + 1 + 1, 3, none⟩) (hb3 (w.heap.size + 1 + 1) hx hsz)).trans R3
  have SZ : ∀ j, w3.frozen? ⟨w.heap.size + 1 + 1, j, none⟩ = false := fun j => (World.frozen?_of_block (w := w2) (a := ⟨w.heap.size + 1 + 1, j, none⟩) (hb3 (w.heap.size + 1 + 1) hx hsz)).trans (RZ j)
  have hBB : Below B w w3 := ((B2.mono hBw).alloc (by have := B2.size; omega) _).grown hg (by have := B2.size; simp; omega) (fun k e => by obtain ⟨q, e1, rfl⟩ := hrow k e; exact (HO.out.far q e1).1)
  have hfar3 : ∀ q, a' = some q → q.block ≠ w.heap.size ∧ q.block ≠ w.heap.size + 1 + 1 := fun q e => by
    rcases hfw q e with ⟨q0, e0, e1⟩ | h
    · have := hlt q0 e0; omega
    · simp at h; omega
  have HR := Lib.hid hr
  have HO3 := Lib.hid hO3
  clear hr hO3 hg hrow hlt hne hb3
  go_wp2_with (at_builtin; refine Lib.wpList_append_run _ rfl _ _ 32 32 rfl (.slice a n c) (.slice (some ⟨w2.heap.size, 0, none⟩) 1 1) rfl rfl _ _ HR.out ?_)
  refine bodyPost_ret (v := .agg #[.int .u64 base, .int .u64 bt, .string snap, .slice a' (n + 1) c']) (by simp [results, Tryd.results30, go_sem, S0, S1, S2, S3]) rfl ?_
  have n0 : ∀ q, a' = some q → q.block ≠ w.heap.size := fun q e => (hfar3 q e).1
  have n2 : ∀ q, a' = some q → q.block ≠ w.heap.size + 1 + 1 := fun q e => (hfar3 q e).2
  have hB2 : B ≤ w.heap.size + 1 + 1 := by omega
  refine ⟨a', c', ?_, ?_, ?_⟩
  · have e : (L ++ [(⟨t, d⟩ : En)]).length = n + 1 := by simp [HN.out]
    show _ = Ending.returned (.agg #[.int .u64 base, .int .u64 bt, .string snap, .slice a' (L ++ [(⟨t, d⟩ : En)]).length c'])
    rw [e]
  · exact ((((HO3.out.set n0 _ _).set n2 _ _).set n2 _ _).set n2 _ _).set n2 _ _
  · exact ((((hBB.setCell hBw _).setCell hB2 _).setCell hB2 _).setCell hB2 _).setCell hB2 _
end Go.Proofs.YtjbhnkigbobhiaaDoor
