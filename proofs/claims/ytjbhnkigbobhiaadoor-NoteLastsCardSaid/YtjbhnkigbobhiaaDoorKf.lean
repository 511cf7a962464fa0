/- The program's log: snapped, where it has that index. -/
import Derived.Test.YtjbhnkigbobhiaaDoorKc
namespace Go.Proofs.YtjbhnkigbobhiaaDoor
open Go.RowKit

theorem keepN {W wp w2 : World} {x y z o : Nat} {vi vt v0 v1 v2 v3 ve : Value} (K : wp.cell? ⟨x, 1, none⟩ = some vi ∧ wp.cell? ⟨x, 2, none⟩ = some vt ∧ wp.cell? ⟨y, 0, none⟩ = some v0 ∧ wp.cell? ⟨y, 1, none⟩ = some v1 ∧ wp.cell? ⟨y, 2, none⟩ = some v2 ∧ wp.cell? ⟨y, 3, none⟩ = some v3 ∧ wp.cell? ⟨z, o, none⟩ = some ve ∧ Below W.heap.size W wp) (hb : Below wp.heap.size wp w2) (hx : x < W.heap.size) (hy : y < W.heap.size) (hz : z < W.heap.size) :
    w2.cell? ⟨x, 1, none⟩ = some vi ∧ w2.cell? ⟨x, 2, none⟩ = some vt ∧ w2.cell? ⟨y, 0, none⟩ = some v0 ∧ w2.cell? ⟨y, 1, none⟩ = some v1 ∧ w2.cell? ⟨y, 2, none⟩ = some v2 ∧ w2.cell? ⟨y, 3, none⟩ = some v3 ∧ w2.cell? ⟨z, o, none⟩ = some ve ∧ Below W.heap.size W w2 := by
  obtain ⟨ki, kt, k0, k1, k2, k3, ke, hB⟩ := K
  have hs := hB.size
  exact ⟨(hb.cell (p := ⟨x, 1, none⟩) (by show x < _; omega)).trans ki, (hb.cell (p := ⟨x, 2, none⟩) (by show x < _; omega)).trans kt, (hb.cell (p := ⟨y, 0, none⟩) (by show y < _; omega)).trans k0, (hb.cell (p := ⟨y, 1, none⟩) (by show y < _; omega)).trans k1, (hb.cell (p := ⟨y, 2, none⟩) (by show y < _; omega)).trans k2, (hb.cell (p := ⟨y, 3, none⟩) (by show y < _; omega)).trans k3, (hb.cell (p := ⟨z, o, none⟩) (by show z < _; omega)).trans ke, hB.trans (hb.mono hs)⟩
set_option maxRecDepth 100000 in
set_option maxHeartbeats 4000000 in
theorem snapped_d (B : Nat) (base bt n c : Nat) (snap : ByteArray) (g off : Nat) (L : List En) (hn : L.length = n) (hl : n ≤ 1024) (hbn : base + n ≤ 1099511627776) (w : World) (hO : Oe B w (some ⟨g, off, none⟩) c L) (hBw : B ≤ w.heap.size) (i t v : Nat) (d : ByteArray) (h1 : base < i) (h2 : i ≤ 1099511627776) (h3 : i ≤ base + n) (x : En) (hx : L[i - base - 1]? = some x) (ht : ¬ x.t = t) :
    Calls Tryd.prog 32 #[.agg #[.int .u64 base, .int .u64 bt, .string snap, .slice (some ⟨g, off, none⟩) n c], .agg #[.int .i64 4, .int .u64 i, .int .u64 t, .int .u64 v, .string d]] w (LgP B w (Sg.step ⟨0, 0, base, bt, snap, L⟩ ⟨4, i, t, v, d⟩)) := by
  have hk : keptL base L i t = [] := by
    unfold keptL; rw [hx]; simp [ht]
  have hstep : Sg.step ⟨0, 0, base, bt, snap, L⟩ ⟨4, i, t, v, d⟩ = ⟨0, 0, i, t, d, []⟩ := by
    have h0 : ¬ (i ≤ base ∨ 1099511627776 < i) := by omega
    simp [Sg.step, h0, hk]
  rw [hstep]
  clear hstep
  have HN := Lib.hid hn; clear hn
  have HO := Lib.hid hO; clear hO
  obtain ⟨q, hq⟩ : ∃ q, base + n = q := ⟨_, rfl⟩
  have hql : q ≤ 1099511627776 := by omega
  have g1 : ¬ (i : Int) ≤ (base : Int) := by omega
  have g2 : ¬ (1099511627776 : Int) < (i : Int) := by omega
  have g3 : (i : Int) ≤ (q : Int) := by omega
  have g4 : 0 ≤ (i : Int) - (base : Int) - 1 := by omega
  have g5 : (i : Int) - (base : Int) - 1 < (n : Int) := by omega
  have g4b : 1 ≤ (i : Int) - (base : Int) := by omega
  have g4c : (base : Int) + 1 ≤ (i : Int) := by omega
  have g5b : (i : Int) - (base : Int) ≤ (n : Int) := by omega
  have g5c : (i : Int) - (base : Int) < (n : Int) + 1 := by omega
  have HX := Lib.hid hx; clear hx
  have g6 : ((x.t : Int) == (t : Int)) = false := by simp; omega
  clear ht
  have HQ := Lib.hid hq; clear hq
  go_enter Tryd.func32, Tryd.ntmps32
  go_wp2_with fail
  generalize hW : ((((w.alloc (.cells #[.int .u64 base, .int .u64 bt, .string snap, .slice (some ⟨g, off, none⟩) n c] 34)).alloc (.cells #[.int .i64 4, .int .u64 i, .int .u64 t, .int .u64 v, .string d] 24)).alloc (.cells #[.int .u64 0, .int .u64 0, .string ⟨#[]⟩, .slice none 0 0] 34)).alloc (.cells #[.int .u64 i, .int .u64 t, .string d, .slice none 0 0] 34)) = W
  have b0 : W.cell? ⟨w.heap.size, 0, none⟩ = some (.int .u64 base) := by subst hW; simp [go_sem]
  have b1 : W.cell? ⟨w.heap.size, 1, none⟩ = some (.int .u64 bt) := by subst hW; simp [go_sem]
  have b2 : W.cell? ⟨w.heap.size, 2, none⟩ = some (.string snap) := by subst hW; simp [go_sem]
  have b3 : W.cell? ⟨w.heap.size, 3, none⟩ = some (.slice (some ⟨g, off, none⟩) n c) := by subst hW; simp [go_sem]
  have m1 : W.cell? ⟨w.heap.size + 1, 1, none⟩ = some (.int .u64 i) := by subst hW; simp [go_sem]
  have m2 : W.cell? ⟨w.heap.size + 1, 2, none⟩ = some (.int .u64 t) := by subst hW; simp [go_sem]
  have r0 : W.cell? ⟨w.heap.size + 1 + 1, 0, none⟩ = some (.int .u64 0) := by subst hW; simp [go_sem]
  have r1 : W.cell? ⟨w.heap.size + 1 + 1, 1, none⟩ = some (.int .u64 0) := by subst hW; simp [go_sem]
  have r2 : W.cell? ⟨w.heap.size + 1 + 1, 2, none⟩ = some (.string ⟨#[]⟩) := by subst hW; simp [go_sem]
  have r3 : W.cell? ⟨w.heap.size + 1 + 1, 3, none⟩ = some (.slice none 0 0) := by subst hW; simp [go_sem]
  have rz : ∀ j, W.frozen? ⟨w.heap.size + 1 + 1, j, none⟩ = false := by subst hW; intro j; simp [go_sem]
  have s0 : W.cell? ⟨w.heap.size + 1 + 1 + 1, 0, none⟩ = some (.int .u64 i) := by subst hW; simp [go_sem]
  have s1 : W.cell? ⟨w.heap.size + 1 + 1 + 1, 1, none⟩ = some (.int .u64 t) := by subst hW; simp [go_sem]
  have s2 : W.cell? ⟨w.heap.size + 1 + 1 + 1, 2, none⟩ = some (.string d) := by subst hW; simp [go_sem]
  have s3 : W.cell? ⟨w.heap.size + 1 + 1 + 1, 3, none⟩ = some (.slice none 0 0) := by subst hW; simp [go_sem]
  have sz : ∀ j, W.frozen? ⟨w.heap.size + 1 + 1 + 1, j, none⟩ = false := by subst hW; intro j; simp [go_sem]
  have hz : w.heap.size + 1 + 1 + 1 < W.heap.size := by subst hW; simp
  have hB : Below w.heap.size w W := by subst hW; go_grown
  clear hW
  have hz0 : w.heap.size < W.heap.size := by omega
  have hz1 : w.heap.size + 1 < W.heap.size := by omega
  have hz2 : w.heap.size + 1 + 1 < W.heap.size := by omega
  have hgl : g < w.heap.size := (HO.out.far _ rfl).2
  have E0 : W.drew.cell? ⟨g, off + (i - base - 1) * 2, none⟩ = some (.int .u64 x.t) := by
    obtain ⟨g', off', e, _, c0, _⟩ := (HO.out.ents.later hB) _ x HX.out
    cases e; exact c0
  have hgl2 : g < W.heap.size := by omega
  have e1 : IntKind.u64.wrap ((i : Int) - (base : Int)) = (i : Int) - (base : Int) := IntWalk.u64_in _ (by omega)
  have e2 : IntKind.u64.wrap ((i : Int) - (base : Int) - 1) = (i : Int) - (base : Int) - 1 := IntWalk.u64_in _ (by omega)
  have e3 : ((i : Int) - (base : Int) - 1).toNat = i - base - 1 := by omega
  have K1 : W.drew.cell? ⟨w.heap.size + 1, 1, none⟩ = some (.int .u64 i) ∧ W.drew.cell? ⟨w.heap.size + 1, 2, none⟩ = some (.int .u64 t) ∧ W.drew.cell? ⟨w.heap.size, 0, none⟩ = some (.int .u64 base) ∧ W.drew.cell? ⟨w.heap.size, 1, none⟩ = some (.int .u64 bt) ∧ W.drew.cell? ⟨w.heap.size, 2, none⟩ = some (.string snap) ∧ W.drew.cell? ⟨w.heap.size, 3, none⟩ = some (.slice (some ⟨g, off, none⟩) n c) ∧ W.drew.cell? ⟨g, off + (i - base - 1) * 2, none⟩ = some (.int .u64 x.t) ∧ Below W.heap.size W W.drew := ⟨m1, m2, b0, b1, b2, b3, E0, (Below.refl _ _).drew⟩
  first | (go_region_held3 (fun w' => w'.cell? ⟨w.heap.size + 1, 1, none⟩ = some (.int .u64 i) ∧ w'.cell? ⟨w.heap.size + 1, 2, none⟩ = some (.int .u64 t) ∧ w'.cell? ⟨w.heap.size, 0, none⟩ = some (.int .u64 base) ∧ w'.cell? ⟨w.heap.size, 1, none⟩ = some (.int .u64 bt) ∧ w'.cell? ⟨w.heap.size, 2, none⟩ = some (.string snap) ∧ w'.cell? ⟨w.heap.size, 3, none⟩ = some (.slice (some ⟨g, off, none⟩) n c) ∧ w'.cell? ⟨g, off + (i - base - 1) * 2, none⟩ = some (.int .u64 x.t) ∧ Below W.heap.size W w')
    (first | (with_reducible assumption) | go_keep)
    ((go_at_call 51; (with_reducible refine (last_any _ _ _ _ _ _ _ (by omega) (by omega)).mono ?_); rintro e w2 ⟨rfl, hb2'⟩; rw [HQ.out]; have K2 := keepN ‹_ ∧ _› hb2' hz1 hz0 hgl2))) | fail
  obtain ⟨_, _, _, _, _, _, _, hb2⟩ := K2
  clear E0 K1 e1 e2 e3
  have C0 : w2.cell? ⟨w.heap.size, 0, none⟩ = some (.int .u64 base) := (hb2.cell (p := ⟨w.heap.size, 0, none⟩) hz0).trans b0
  have C1 : w2.cell? ⟨w.heap.size, 1, none⟩ = some (.int .u64 bt) := (hb2.cell (p := ⟨w.heap.size, 1, none⟩) hz0).trans b1
  have C2 : w2.cell? ⟨w.heap.size, 2, none⟩ = some (.string snap) := (hb2.cell (p := ⟨w.heap.size, 2, none⟩) hz0).trans b2
  have C3 : w2.cell? ⟨w.heap.size, 3, none⟩ = some (.slice (some ⟨g, off, none⟩) n c) := (hb2.cell (p := ⟨w.heap.size, 3, none⟩) hz0).trans b3
  have N1 : w2.cell? ⟨w.heap.size + 1, 1, none⟩ = some (.int .u64 i) := (hb2.cell (p := ⟨w.heap.size + 1, 1, none⟩) hz1).trans m1
  have R0 : w2.cell? ⟨w.heap.size + 1 + 1, 0, none⟩ = some (.int .u64 0) := (hb2.cell (p := ⟨w.heap.size + 1 + 1, 0, none⟩) hz2).trans r0
  have R1 : w2.cell? ⟨w.heap.size + 1 + 1, 1, none⟩ = some (.int .u64 0) := (hb2.cell (p := ⟨w.heap.size + 1 + 1, 1, none⟩) hz2).trans r1
  have R2 : w2.cell? ⟨w.heap.size + 1 + 1, 2, none⟩ = some (.string ⟨#[]⟩) := (hb2.cell (p := ⟨w.heap.size + 1 + 1, 2, none⟩) hz2).trans r2
  have R3 : w2.cell? ⟨w.heap.size + 1 + 1, 3, none⟩ = some (.slice none 0 0) := (hb2.cell (p := ⟨w.heap.size + 1 + 1, 3, none⟩) hz2).trans r3
  have RZ : ∀ j, w2.frozen? ⟨w.heap.size + 1 + 1, j, none⟩ = false := fun j => (hb2.frozen (p := ⟨w.heap.size + 1 + 1, j, none⟩) hz2).trans (rz j)
  have S0 : w2.cell? ⟨w.heap.size + 1 + 1 + 1, 0, none⟩ = some (.int .u64 i) := (hb2.cell (p := ⟨w.heap.size + 1 + 1 + 1, 0, none⟩) hz).trans s0
  have S1 : w2.cell? ⟨w.heap.size + 1 + 1 + 1, 1, none⟩ = some (.int .u64 t) := (hb2.cell (p := ⟨w.heap.size + 1 + 1 + 1, 1, none⟩) hz).trans s1
  have S2 : w2.cell? ⟨w.heap.size + 1 + 1 + 1, 2, none⟩ = some (.string d) := (hb2.cell (p := ⟨w.heap.size + 1 + 1 + 1, 2, none⟩) hz).trans s2
  have S3 : w2.cell? ⟨w.heap.size + 1 + 1 + 1, 3, none⟩ = some (.slice none 0 0) := (hb2.cell (p := ⟨w.heap.size + 1 + 1 + 1, 3, none⟩) hz).trans s3
  have SZ : ∀ j, w2.frozen? ⟨w.heap.size + 1 + 1 + 1, j, none⟩ = false := fun j => (hb2.frozen (p := ⟨w.heap.size + 1 + 1 + 1, j, none⟩) hz).trans (sz j)
  have B2 : Below w.heap.size w w2 := hB.trans (hb2.mono hB.size)
  have hsz : w.heap.size + 1 + 1 + 1 < w2.heap.size := Nat.lt_of_lt_of_le hz hb2.size
  have hx : w.heap.size ≤ w.heap.size + 1 + 1 := by omega
  clear b0 b1 b2 b3 m1 m2 r0 r1 r2 r3 rz s0 s1 s2 s3 sz hb2 hB
  go_wp2_with fail
  refine bodyPost_ret (v := .agg #[.int .u64 i, .int .u64 t, .string d, .slice none 0 0]) (by simp [results, Tryd.results32, go_sem, R0, R1, R2, R3]) rfl ?_
  have hB2 : B ≤ w.heap.size + 1 + 1 := by omega
  exact ⟨none, 0, rfl, Oe.nil _ _, (((((B2.mono hBw).setCell hB2 _).setCell hB2 _).setCell hB2 _).setCell hB2 _)⟩
set_option maxRecDepth 100000 in
set_option maxHeartbeats 4000000 in
theorem snapped_e (B : Nat) (base bt n c : Nat) (snap : ByteArray) (g off : Nat) (L : List En) (hn : L.length = n) (hl : n ≤ 1024) (hbn : base + n ≤ 1099511627776) (w : World) (hO : Oe B w (some ⟨g, off, none⟩) c L) (hBw : B ≤ w.heap.size) (i t v : Nat) (d : ByteArray) (h1 : base < i) (h2 : i ≤ 1099511627776) (h3 : i ≤ base + n) (x : En) (hx : L[i - base - 1]? = some x) (ht : x.t = t) :
    Calls Tryd.prog 32 #[.agg #[.int .u64 base, .int .u64 bt, .string snap, .slice (some ⟨g, off, none⟩) n c], .agg #[.int .i64 4, .int .u64 i, .int .u64 t, .int .u64 v, .string d]] w (LgP B w (Sg.step ⟨0, 0, base, bt, snap, L⟩ ⟨4, i, t, v, d⟩)) := by
  have hk : keptL base L i t = L.drop (i - base) := by
    unfold keptL; rw [hx]; simp [ht]
  have hstep : Sg.step ⟨0, 0, base, bt, snap, L⟩ ⟨4, i, t, v, d⟩ = ⟨0, 0, i, t, d, L.drop (i - base)⟩ := by
    have h0 : ¬ (i ≤ base ∨ 1099511627776 < i) := by omega
    simp [Sg.step, h0, hk]
  rw [hstep]
  clear hstep
  have HN := Lib.hid hn; clear hn
  have HO := Lib.hid hO; clear hO
  obtain ⟨q, hq⟩ : ∃ q, base + n = q := ⟨_, rfl⟩
  have hql : q ≤ 1099511627776 := by omega
  have g1 : ¬ (i : Int) ≤ (base : Int) := by omega
  have g2 : ¬ (1099511627776 : Int) < (i : Int) := by omega
  have g3 : (i : Int) ≤ (q : Int) := by omega
  have g4 : 0 ≤ (i : Int) - (base : Int) - 1 := by omega
  have g5 : (i : Int) - (base : Int) - 1 < (n : Int) := by omega
  have g4b : 1 ≤ (i : Int) - (base : Int) := by omega
  have g4c : (base : Int) + 1 ≤ (i : Int) := by omega
  have g5b : (i : Int) - (base : Int) ≤ (n : Int) := by omega
  have g5c : (i : Int) - (base : Int) < (n : Int) + 1 := by omega
  have HX := Lib.hid hx; clear hx
  have g6 : ((x.t : Int) == (t : Int)) = true := by simp; omega
  have g7 : 0 ≤ (i : Int) - (base : Int) := by omega
  have g8 : (i : Int) - (base : Int) ≤ (n : Int) := by omega
  have g9 : n ≤ c := by have := HO.out.1; have := HN.out; omega
  clear ht
  have HQ := Lib.hid hq; clear hq
  go_enter Tryd.func32, Tryd.ntmps32
  go_wp2_with fail
  generalize hW : ((((w.alloc (.cells #[.int .u64 base, .int .u64 bt, .string snap, .slice (some ⟨g, off, none⟩) n c] 34)).alloc (.cells #[.int .i64 4, .int .u64 i, .int .u64 t, .int .u64 v, .string d] 24)).alloc (.cells #[.int .u64 0, .int .u64 0, .string ⟨#[]⟩, .slice none 0 0] 34)).alloc (.cells #[.int .u64 i, .int .u64 t, .string d, .slice none 0 0] 34)) = W
  have b0 : W.cell? ⟨w.heap.size, 0, none⟩ = some (.int .u64 base) := by subst hW; simp [go_sem]
  have b1 : W.cell? ⟨w.heap.size, 1, none⟩ = some (.int .u64 bt) := by subst hW; simp [go_sem]
  have b2 : W.cell? ⟨w.heap.size, 2, none⟩ = some (.string snap) := by subst hW; simp [go_sem]
  have b3 : W.cell? ⟨w.heap.size, 3, none⟩ = some (.slice (some ⟨g, off, none⟩) n c) := by subst hW; simp [go_sem]
  have m1 : W.cell? ⟨w.heap.size + 1, 1, none⟩ = some (.int .u64 i) := by subst hW; simp [go_sem]
  have m2 : W.cell? ⟨w.heap.size + 1, 2, none⟩ = some (.int .u64 t) := by subst hW; simp [go_sem]
  have r0 : W.cell? ⟨w.heap.size + 1 + 1, 0, none⟩ = some (.int .u64 0) := by subst hW; simp [go_sem]
  have r1 : W.cell? ⟨w.heap.size + 1 + 1, 1, none⟩ = some (.int .u64 0) := by subst hW; simp [go_sem]
  have r2 : W.cell? ⟨w.heap.size + 1 + 1, 2, none⟩ = some (.string ⟨#[]⟩) := by subst hW; simp [go_sem]
  have r3 : W.cell? ⟨w.heap.size + 1 + 1, 3, none⟩ = some (.slice none 0 0) := by subst hW; simp [go_sem]
  have rz : ∀ j, W.frozen? ⟨w.heap.size + 1 + 1, j, none⟩ = false := by subst hW; intro j; simp [go_sem]
  have s0 : W.cell? ⟨w.heap.size + 1 + 1 + 1, 0, none⟩ = some (.int .u64 i) := by subst hW; simp [go_sem]
  have s1 : W.cell? ⟨w.heap.size + 1 + 1 + 1, 1, none⟩ = some (.int .u64 t) := by subst hW; simp [go_sem]
  have s2 : W.cell? ⟨w.heap.size + 1 + 1 + 1, 2, none⟩ = some (.string d) := by subst hW; simp [go_sem]
  have s3 : W.cell? ⟨w.heap.size + 1 + 1 + 1, 3, none⟩ = some (.slice none 0 0) := by subst hW; simp [go_sem]
  have sz : ∀ j, W.frozen? ⟨w.heap.size + 1 + 1 + 1, j, none⟩ = false := by subst hW; intro j; simp [go_sem]
  have hz : w.heap.size + 1 + 1 + 1 < W.heap.size := by subst hW; simp
  have hB : Below w.heap.size w W := by subst hW; go_grown
  clear hW
  have hz0 : w.heap.size < W.heap.size := by omega
  have hz1 : w.heap.size + 1 < W.heap.size := by omega
  have hz2 : w.heap.size + 1 + 1 < W.heap.size := by omega
  have hgl : g < w.heap.size := (HO.out.far _ rfl).2
  have E0 : W.drew.cell? ⟨g, off + (i - base - 1) * 2, none⟩ = some (.int .u64 x.t) := by
    obtain ⟨g', off', e, _, c0, _⟩ := (HO.out.ents.later hB) _ x HX.out
    cases e; exact c0
  have hgl2 : g < W.heap.size := by omega
  have e1 : IntKind.u64.wrap ((i : Int) - (base : Int)) = (i : Int) - (base : Int) := IntWalk.u64_in _ (by omega)
  have e2 : IntKind.u64.wrap ((i : Int) - (base : Int) - 1) = (i : Int) - (base : Int) - 1 := IntWalk.u64_in _ (by omega)
  have e3 : ((i : Int) - (base : Int) - 1).toNat = i - base - 1 := by omega
  have K1 : W.drew.cell? ⟨w.heap.size + 1, 1, none⟩ = some (.int .u64 i) ∧ W.drew.cell? ⟨w.heap.size + 1, 2, none⟩ = some (.int .u64 t) ∧ W.drew.cell? ⟨w.heap.size, 0, none⟩ = some (.int .u64 base) ∧ W.drew.cell? ⟨w.heap.size, 1, none⟩ = some (.int .u64 bt) ∧ W.drew.cell? ⟨w.heap.size, 2, none⟩ = some (.string snap) ∧ W.drew.cell? ⟨w.heap.size, 3, none⟩ = some (.slice (some ⟨g, off, none⟩) n c) ∧ W.drew.cell? ⟨g, off + (i - base - 1) * 2, none⟩ = some (.int .u64 x.t) ∧ Below W.heap.size W W.drew := ⟨m1, m2, b0, b1, b2, b3, E0, (Below.refl _ _).drew⟩
  first | (go_region_held3 (fun w' => w'.cell? ⟨w.heap.size + 1, 1, none⟩ = some (.int .u64 i) ∧ w'.cell? ⟨w.heap.size + 1, 2, none⟩ = some (.int .u64 t) ∧ w'.cell? ⟨w.heap.size, 0, none⟩ = some (.int .u64 base) ∧ w'.cell? ⟨w.heap.size, 1, none⟩ = some (.int .u64 bt) ∧ w'.cell? ⟨w.heap.size, 2, none⟩ = some (.string snap) ∧ w'.cell? ⟨w.heap.size, 3, none⟩ = some (.slice (some ⟨g, off, none⟩) n c) ∧ w'.cell? ⟨g, off + (i - base - 1) * 2, none⟩ = some (.int .u64 x.t) ∧ Below W.heap.size W w')
    (first | (with_reducible assumption) | go_keep)
    ((go_at_call 51; (with_reducible refine (last_any _ _ _ _ _ _ _ (by omega) (by omega)).mono ?_); rintro e w2 ⟨rfl, hb2'⟩; rw [HQ.out]; have K2 := keepN ‹_ ∧ _› hb2' hz1 hz0 hgl2))) | fail
  obtain ⟨_, _, _, _, _, _, _, hb2⟩ := K2
  clear E0 K1 e1 e2 e3
  have C0 : w2.cell? ⟨w.heap.size, 0, none⟩ = some (.int .u64 base) := (hb2.cell (p := ⟨w.heap.size, 0, none⟩) hz0).trans b0
  have C1 : w2.cell? ⟨w.heap.size, 1, none⟩ = some (.int .u64 bt) := (hb2.cell (p := ⟨w.heap.size, 1, none⟩) hz0).trans b1
  have C2 : w2.cell? ⟨w.heap.size, 2, none⟩ = some (.string snap) := (hb2.cell (p := ⟨w.heap.size, 2, none⟩) hz0).trans b2
  have C3 : w2.cell? ⟨w.heap.size, 3, none⟩ = some (.slice (some ⟨g, off, none⟩) n c) := (hb2.cell (p := ⟨w.heap.size, 3, none⟩) hz0).trans b3
  have N1 : w2.cell? ⟨w.heap.size + 1, 1, none⟩ = some (.int .u64 i) := (hb2.cell (p := ⟨w.heap.size + 1, 1, none⟩) hz1).trans m1
  have R0 : w2.cell? ⟨w.heap.size + 1 + 1, 0, none⟩ = some (.int .u64 0) := (hb2.cell (p := ⟨w.heap.size + 1 + 1, 0, none⟩) hz2).trans r0
  have R1 : w2.cell? ⟨w.heap.size + 1 + 1, 1, none⟩ = some (.int .u64 0) := (hb2.cell (p := ⟨w.heap.size + 1 + 1, 1, none⟩) hz2).trans r1
  have R2 : w2.cell? ⟨w.heap.size + 1 + 1, 2, none⟩ = some (.string ⟨#[]⟩) := (hb2.cell (p := ⟨w.heap.size + 1 + 1, 2, none⟩) hz2).trans r2
  have R3 : w2.cell? ⟨w.heap.size + 1 + 1, 3, none⟩ = some (.slice none 0 0) := (hb2.cell (p := ⟨w.heap.size + 1 + 1, 3, none⟩) hz2).trans r3
  have RZ : ∀ j, w2.frozen? ⟨w.heap.size + 1 + 1, j, none⟩ = false := fun j => (hb2.frozen (p := ⟨w.heap.size + 1 + 1, j, none⟩) hz2).trans (rz j)
  have S0 : w2.cell? ⟨w.heap.size + 1 + 1 + 1, 0, none⟩ = some (.int .u64 i) := (hb2.cell (p := ⟨w.heap.size + 1 + 1 + 1, 0, none⟩) hz).trans s0
  have S1 : w2.cell? ⟨w.heap.size + 1 + 1 + 1, 1, none⟩ = some (.int .u64 t) := (hb2.cell (p := ⟨w.heap.size + 1 + 1 + 1, 1, none⟩) hz).trans s1
  have S2 : w2.cell? ⟨w.heap.size + 1 + 1 + 1, 2, none⟩ = some (.string d) := (hb2.cell (p := ⟨w.heap.size + 1 + 1 + 1, 2, none⟩) hz).trans s2
  have S3 : w2.cell? ⟨w.heap.size + 1 + 1 + 1, 3, none⟩ = some (.slice none 0 0) := (hb2.cell (p := ⟨w.heap.size + 1 + 1 + 1, 3, none⟩) hz).trans s3
  have SZ : ∀ j, w2.frozen? ⟨w.heap.size + 1 + 1 + 1, j, none⟩ = false := fun j => (hb2.frozen (p := ⟨w.heap.size + 1 + 1 + 1, j, none⟩) hz).trans (sz j)
  have B2 : Below w.heap.size w w2 := hB.trans (hb2.mono hB.size)
  have hsz : w.heap.size + 1 + 1 + 1 < w2.heap.size := Nat.lt_of_lt_of_le hz hb2.size
  have hx : w.heap.size ≤ w.heap.size + 1 + 1 := by omega
  clear b0 b1 b2 b3 m1 m2 r0 r1 r2 r3 rz s0 s1 s2 s3 sz hb2 hB
  go_wp2_with fail
  · refine bodyPost_ret (v := .agg #[.int .u64 i, .int .u64 t, .string d, .slice (some ⟨g, off, none⟩) (n - (i - base)) 0]) (by simp [results, Tryd.results32, go_sem, World.cell?_setCell_far, R0, R1, R2, R3]) rfl ?_
    have hd := (HO.out.later B2).drop (i - base) (by rw [HN.out]; omega) (off) (by omega)
    have h00 : c - (i - base) = 0 := by omega
    rw [h00] at hd
    have hlen : (L.drop (i - base)).length = n - (i - base) := by rw [List.length_drop, HN.out]
    have hgl : g < w.heap.size := (HO.out.far _ rfl).2
    have n2 : ∀ q, some (⟨g, off, none⟩ : Addr) = some q → q.block ≠ w.heap.size + 1 + 1 := fun q e => by cases e; simp only; omega
    have n3 : ∀ q, some (⟨g, off, none⟩ : Addr) = some q → q.block ≠ w.heap.size + 1 + 1 + 1 := fun q e => by cases e; simp only; omega
    have hB2 : B ≤ w.heap.size + 1 + 1 := by omega
    have hB3 : B ≤ w.heap.size + 1 + 1 + 1 := by omega
    refine ⟨some ⟨g, off, none⟩, 0, ?_, ?_, ?_⟩
    · show _ = Ending.returned (.agg #[.int .u64 i, .int .u64 t, .string d, .slice (some ⟨g, off, none⟩) (L.drop (i - base)).length 0])
      rw [hlen]
    · exact (((((hd.set n3 _ _).set n2 _ _).set n2 _ _).set n2 _ _).set n2 _ _)
    · exact ((((((B2.mono hBw).setCell hB3 _).setCell hB2 _).setCell hB2 _).setCell hB2 _).setCell hB2 _)
  · refine bodyPost_ret (v := .agg #[.int .u64 i, .int .u64 t, .string d, .slice (some ⟨g, off + (i - base) * 2, none⟩) (n - (i - base)) (c - (i - base))]) (by simp [results, Tryd.results32, go_sem, World.cell?_setCell_far, R0, R1, R2, R3]) rfl ?_
    have hd := (HO.out.later B2).drop (i - base) (by rw [HN.out]; omega) (off + (i - base) * 2) (fun _ => rfl)
    have hlen : (L.drop (i - base)).length = n - (i - base) := by rw [List.length_drop, HN.out]
    have hgl : g < w.heap.size := (HO.out.far _ rfl).2
    have n2 : ∀ q, some (⟨g, off + (i - base) * 2, none⟩ : Addr) = some q → q.block ≠ w.heap.size + 1 + 1 := fun q e => by cases e; simp only; omega
    have n3 : ∀ q, some (⟨g, off + (i - base) * 2, none⟩ : Addr) = some q → q.block ≠ w.heap.size + 1 + 1 + 1 := fun q e => by cases e; simp only; omega
    have hB2 : B ≤ w.heap.size + 1 + 1 := by omega
    have hB3 : B ≤ w.heap.size + 1 + 1 + 1 := by omega
    refine ⟨some ⟨g, off + (i - base) * 2, none⟩, (c - (i - base)), ?_, ?_, ?_⟩
    · show _ = Ending.returned (.agg #[.int .u64 i, .int .u64 t, .string d, .slice (some ⟨g, off + (i - base) * 2, none⟩) (L.drop (i - base)).length (c - (i - base))])
      rw [hlen]
    · exact (((((hd.set n3 _ _).set n2 _ _).set n2 _ _).set n2 _ _).set n2 _ _)
    · exact ((((((B2.mono hBw).setCell hB3 _).setCell hB2 _).setCell hB2 _).setCell hB2 _).setCell hB2 _)
end Go.Proofs.YtjbhnkigbobhiaaDoor
