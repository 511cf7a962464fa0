/- The reference of layer 4: Step: an entry more. -/
import Derived.Test.YtjbhnkigbobhiaaDoorKa
import Derived.Deep.RegionHeld3
import Derived.IntWalk
import Derived.Outline
import Derived.Deep.AppendLies
namespace Go.Proofs.YtjbhnkigbobhiaaDoor
open Go.RowKit

theorem keepE {W w' : World} {l m : Nat} {v1 v2 v3 : Value} (h1 : W.cell? ⟨l, 3, none⟩ = some v1) (h2 : W.cell? ⟨m, 2, none⟩ = some v2) (h3 : W.cell? ⟨m, 4, none⟩ = some v3) (hl : l < W.heap.size) (hm : m < W.heap.size) (hB : Below W.heap.size W w') :
    w'.cell? ⟨l, 3, none⟩ = some v1 ∧ w'.cell? ⟨m, 2, none⟩ = some v2 ∧ w'.cell? ⟨m, 4, none⟩ = some v3 :=
  ⟨(hB.cell (p := ⟨l, 3, none⟩) hl).trans h1, (hB.cell (p := ⟨m, 2, none⟩) hm).trans h2, (hB.cell (p := ⟨m, 4, none⟩) hm).trans h3⟩
theorem keepC {w : World} {l m b : Nat} {v1 v2 v3 v : Value} (K : w.cell? ⟨l, 3, none⟩ = some v1 ∧ w.cell? ⟨m, 2, none⟩ = some v2 ∧ w.cell? ⟨m, 4, none⟩ = some v3) (hl : b ≠ l) (hm : b ≠ m) :
    (w.setCell ⟨b, 5, none⟩ v).cell? ⟨l, 3, none⟩ = some v1 ∧ (w.setCell ⟨b, 5, none⟩ v).cell? ⟨m, 2, none⟩ = some v2 ∧ (w.setCell ⟨b, 5, none⟩ v).cell? ⟨m, 4, none⟩ = some v3 :=
  ⟨(World.cell?_setCell_far _ _ _ _ hl).trans K.1, (World.cell?_setCell_far _ _ _ _ hm).trans K.2.1, (World.cell?_setCell_far _ _ _ _ hm).trans K.2.2⟩
theorem app1W (W w : World) (ty : TypeId) (b : Addr) (a : Option Addr) (n c : Nat) (L : List En) (hE : Ents w a L) (hn : L.length = n) (hl : n ≤ 1024) (hB : Below W.heap.size W w) :
    ∃ v' w', (Builtin.append_ #[32, 32] ty #[.slice (some b) 0 0, .slice a n c]).run Tryd.prog w = .ok v' w' ∧ (Cp W.heap.size w' v' L ∧ Below w.heap.size w w' ∧ Below W.heap.size W w') := by
  obtain ⟨v', w', hr, h1, h2⟩ := app1 W.heap.size w ty b a n c L hE hn hl hB.size
  exact ⟨v', w', hr, h1, h2, hB.trans (h2.mono hB.size)⟩
theorem app2W (W w : World) (ty : TypeId) (v : Value) (L : List En) (h : Cp W.heap.size w v L) (hl : L.length ≤ 1024) (ad : Addr) (c : Nat) (x : En) (hnews : ∀ j u, (enCells x)[j]? = some u → w.cell? (ad.add j) = some u) (hB : Below W.heap.size W w) :
    ∃ v' w', (Builtin.append_ #[32, 32] ty #[v, .slice (some ad) 1 c]).run Tryd.prog w = .ok v' w' ∧ ((∃ g cap, v' = .slice (some ⟨g, 0, none⟩) (L.length + 1) cap) ∧ w'.ownsRow W.heap.size 65 2 v' (L ++ [x]).length (esCells (L ++ [x])) ∧ Below W.heap.size W w') := by
  obtain ⟨v', w', hr, h1, h2⟩ := app2 W.heap.size w ty v L h hl ad c x hnews hB.size
  obtain ⟨g, cap, rfl, _, _⟩ := h1.form (by simp)
  exact ⟨_, w', hr, ⟨g, cap, by simp⟩, h1, hB.trans h2⟩
theorem news_new {w : World} {L : List Value} {t : TypeId} {j : Nat} {u : Value} (hj : L[j]? = some u) : (w.alloc (.cells L.toArray t)).cell? ⟨w.heap.size, j, none⟩ = some u :=
  (World.cell?_alloc_new _ _ _ _).trans (by rw [List.getElem?_toArray]; exact hj)
theorem news_a {w w' : World} {L : List Value} {t : TypeId} {o : Obj} {j : Nat} {u : Value} (hb : Below ((w.alloc o).alloc (.cells L.toArray t)).heap.size ((w.alloc o).alloc (.cells L.toArray t)).drew w') (hj : L[j]? = some u) : w'.cell? ⟨w.heap.size + 1, j, none⟩ = some u := by
  refine (hb.cell (p := ⟨w.heap.size + 1, j, none⟩) (by simp)).trans ?_
  have := news_new (w := w.alloc o) (t := t) hj
  simpa using this
theorem news_b {w w' : World} {L : List Value} {t : TypeId} {o : Obj} {j : Nat} {u : Value} (hb : Below ((w.alloc (.cells L.toArray t)).alloc o).heap.size ((w.alloc (.cells L.toArray t)).alloc o).drew w') (hj : L[j]? = some u) : w'.cell? ⟨w.heap.size, j, none⟩ = some u := by
  refine (hb.cell (p := ⟨w.heap.size, j, none⟩) (by simp; omega)).trans ?_
  have h2 := World.cell?_of_block (w := w.alloc (.cells L.toArray t)) (w' := ((w.alloc (.cells L.toArray t)).alloc o).drew) (a := ⟨w.heap.size, j, none⟩) (Below.heap_alloc _ _ _ (by simp))
  exact h2.trans (news_new hj)
set_option maxRecDepth 100000 in
set_option maxHeartbeats 4000000 in
theorem step_2e (term vote base bt n c : Nat) (snap : ByteArray) (a : Option Addr) (L : List En) (hn : L.length = n) (hl : n ≤ 1024) (hbn : base + n ≤ 1099511627776) (w : World) (hE : Ents w a L) (i t v : Nat) (d : ByteArray) (h1 : i = base + n + 1) (h2 : n < 1024) (h3 : i ≤ 1099511627776) :
    Calls Tryd.prog 39 #[.agg #[.int .u64 term, .int .u64 vote, .int .u64 base, .int .u64 bt, .string snap, .slice a n c], .agg #[.int .i64 2, .int .u64 i, .int .u64 t, .int .u64 v, .string d]] w (StP w a (Sg.step ⟨term, vote, base, bt, snap, L⟩ ⟨2, i, t, v, d⟩)) := by
  have hstep : Sg.step ⟨term, vote, base, bt, snap, L⟩ ⟨2, i, t, v, d⟩ = ⟨term, vote, base, bt, snap, L ++ [⟨t, d⟩]⟩ := by simp [Sg.step, hn, h1, h2]; omega
  rw [hstep]
  clear hstep
  have HN := Lib.hid hn; clear hn
  have HE := Lib.hid hE; clear hE
  obtain ⟨q, hq⟩ : ∃ q, base + n = q := ⟨_, rfl⟩
  have hql : q ≤ 1099511627776 := by omega
  have g1 : ((i : Int) == (q : Int) + 1) = true := by simp; omega
  have g2 : (n : Int) < 1024 := by omega
  have g3 : (i : Int) ≤ 1099511627776 := by omega
  clear h1
  have e1 : IntKind.u64.wrap ((q : Int) + 1) = (q : Int) + 1 := IntWalk.u64_in _ (by omega)
  have HQ := Lib.hid hq
  go_enter Tryd.func39, Tryd.ntmps39
  go_wp2_with fail
  generalize hW : ((((w.alloc (.cells #[.int .u64 term, .int .u64 vote, .int .u64 base, .int .u64 bt, .string snap, .slice a n c] 36)).alloc (.cells #[.int .i64 2, .int .u64 i, .int .u64 t, .int .u64 v, .string d] 24)).alloc (.cells #[.int .u64 0, .int .u64 0, .int .u64 0, .int .u64 0, .string ⟨#[]⟩, .slice none 0 0] 36)).alloc (.cells #[.int .u64 base, .int .u64 bt, .string snap, .slice a n c] 34)) = W
  have b0 : W.cell? ⟨w.heap.size, 0, none⟩ = some (.int .u64 term) := by subst hW; simp [go_sem]
  have b1 : W.cell? ⟨w.heap.size, 1, none⟩ = some (.int .u64 vote) := by subst hW; simp [go_sem]
  have b2 : W.cell? ⟨w.heap.size, 2, none⟩ = some (.int .u64 base) := by subst hW; simp [go_sem]
  have b3 : W.cell? ⟨w.heap.size, 3, none⟩ = some (.int .u64 bt) := by subst hW; simp [go_sem]
  have b4 : W.cell? ⟨w.heap.size, 4, none⟩ = some (.string snap) := by subst hW; simp [go_sem]
  have b5 : W.cell? ⟨w.heap.size, 5, none⟩ = some (.slice a n c) := by subst hW; simp [go_sem]
  have m1 : W.cell? ⟨w.heap.size + 1, 1, none⟩ = some (.int .u64 i) := by subst hW; simp [go_sem]
  have m2 : W.cell? ⟨w.heap.size + 1, 2, none⟩ = some (.int .u64 t) := by subst hW; simp [go_sem]
  have m4 : W.cell? ⟨w.heap.size + 1, 4, none⟩ = some (.string d) := by subst hW; simp [go_sem]
  have r0 : W.cell? ⟨w.heap.size + 1 + 1, 0, none⟩ = some (.int .u64 0) := by subst hW; simp [go_sem]
  have r1 : W.cell? ⟨w.heap.size + 1 + 1, 1, none⟩ = some (.int .u64 0) := by subst hW; simp [go_sem]
  have r2 : W.cell? ⟨w.heap.size + 1 + 1, 2, none⟩ = some (.int .u64 0) := by subst hW; simp [go_sem]
  have r3 : W.cell? ⟨w.heap.size + 1 + 1, 3, none⟩ = some (.int .u64 0) := by subst hW; simp [go_sem]
  have r4 : W.cell? ⟨w.heap.size + 1 + 1, 4, none⟩ = some (.string ⟨#[]⟩) := by subst hW; simp [go_sem]
  have r5 : W.cell? ⟨w.heap.size + 1 + 1, 5, none⟩ = some (.slice none 0 0) := by subst hW; simp [go_sem]
  have rz : ∀ j, W.frozen? ⟨w.heap.size + 1 + 1, j, none⟩ = false := by subst hW; intro j; simp [go_sem]
  have bz : ∀ j, W.frozen? ⟨w.heap.size, j, none⟩ = false := by subst hW; intro j; simp [go_sem]
  have l0 : W.cell? ⟨w.heap.size + 1 + 1 + 1, 0, none⟩ = some (.int .u64 base) := by subst hW; simp [go_sem]
  have l1 : W.cell? ⟨w.heap.size + 1 + 1 + 1, 1, none⟩ = some (.int .u64 bt) := by subst hW; simp [go_sem]
  have l2 : W.cell? ⟨w.heap.size + 1 + 1 + 1, 2, none⟩ = some (.string snap) := by subst hW; simp [go_sem]
  have l3 : W.cell? ⟨w.heap.size + 1 + 1 + 1, 3, none⟩ = some (.slice a n c) := by subst hW; simp [go_sem]
  have hz : w.heap.size + 1 + 1 + 1 < W.heap.size := by subst hW; simp
  have hB : Below w.heap.size w W := by subst hW; go_grown
  clear hW
  clear hq
  have hz1 : w.heap.size + 1 < W.heap.size := by omega
  have hz0 : w.heap.size < W.heap.size := by omega
  have hz2 : w.heap.size + 1 + 1 < W.heap.size := by omega
  have K1 : W.drew.cell? ⟨w.heap.size + 1, 1, none⟩ = some (.int .u64 i) ∧ W.drew.cell? ⟨w.heap.size + 1 + 1 + 1, 0, none⟩ = some (.int .u64 base) ∧ W.drew.cell? ⟨w.heap.size + 1 + 1 + 1, 1, none⟩ = some (.int .u64 bt) ∧ W.drew.cell? ⟨w.heap.size + 1 + 1 + 1, 2, none⟩ = some (.string snap) ∧ W.drew.cell? ⟨w.heap.size + 1 + 1 + 1, 3, none⟩ = some (.slice a n c) ∧ Below W.heap.size W W.drew := ⟨m1, l0, l1, l2, l3, (Below.refl _ _).drew⟩
  go_region_held3 (fun w' => w'.cell? ⟨w.heap.size + 1, 1, none⟩ = some (.int .u64 i) ∧ w'.cell? ⟨w.heap.size + 1 + 1 + 1, 0, none⟩ = some (.int .u64 base) ∧ w'.cell? ⟨w.heap.size + 1 + 1 + 1, 1, none⟩ = some (.int .u64 bt) ∧ w'.cell? ⟨w.heap.size + 1 + 1 + 1, 2, none⟩ = some (.string snap) ∧ w'.cell? ⟨w.heap.size + 1 + 1 + 1, 3, none⟩ = some (.slice a n c) ∧ Below W.heap.size W w')
    (first | (with_reducible assumption) | go_keep)
    ((go_at_call 27; (with_reducible refine (refLast_any _ _ _ _ _ _ _ (by omega) (by omega)).mono ?_); rintro e w2 ⟨rfl, hb2'⟩; rw [HQ.out]; have K2 := keepL ‹_ ∧ _› hb2' hz1 hz))
  have hb2 := K2.2.2.2.2.2
  have C0 : w2.cell? ⟨w.heap.size, 0, none⟩ = some (.int .u64 term) := (hb2.cell (p := ⟨w.heap.size, 0, none⟩) hz0).trans b0
  have C1 : w2.cell? ⟨w.heap.size, 1, none⟩ = some (.int .u64 vote) := (hb2.cell (p := ⟨w.heap.size, 1, none⟩) hz0).trans b1
  have C2 : w2.cell? ⟨w.heap.size, 2, none⟩ = some (.int .u64 base) := (hb2.cell (p := ⟨w.heap.size, 2, none⟩) hz0).trans b2
  have C3 : w2.cell? ⟨w.heap.size, 3, none⟩ = some (.int .u64 bt) := (hb2.cell (p := ⟨w.heap.size, 3, none⟩) hz0).trans b3
  have C4 : w2.cell? ⟨w.heap.size, 4, none⟩ = some (.string snap) := (hb2.cell (p := ⟨w.heap.size, 4, none⟩) hz0).trans b4
  have C5 : w2.cell? ⟨w.heap.size, 5, none⟩ = some (.slice a n c) := (hb2.cell (p := ⟨w.heap.size, 5, none⟩) hz0).trans b5
  have BZ : ∀ j, w2.frozen? ⟨w.heap.size, j, none⟩ = false := fun j => (hb2.frozen (p := ⟨w.heap.size, j, none⟩) hz0).trans (bz j)
  have R0 : w2.cell? ⟨w.heap.size + 1 + 1, 0, none⟩ = some (.int .u64 0) := (hb2.cell (p := ⟨w.heap.size + 1 + 1, 0, none⟩) hz2).trans r0
  have R1 : w2.cell? ⟨w.heap.size + 1 + 1, 1, none⟩ = some (.int .u64 0) := (hb2.cell (p := ⟨w.heap.size + 1 + 1, 1, none⟩) hz2).trans r1
  have R2 : w2.cell? ⟨w.heap.size + 1 + 1, 2, none⟩ = some (.int .u64 0) := (hb2.cell (p := ⟨w.heap.size + 1 + 1, 2, none⟩) hz2).trans r2
  have R3 : w2.cell? ⟨w.heap.size + 1 + 1, 3, none⟩ = some (.int .u64 0) := (hb2.cell (p := ⟨w.heap.size + 1 + 1, 3, none⟩) hz2).trans r3
  have R4 : w2.cell? ⟨w.heap.size + 1 + 1, 4, none⟩ = some (.string ⟨#[]⟩) := (hb2.cell (p := ⟨w.heap.size + 1 + 1, 4, none⟩) hz2).trans r4
  have R5 : w2.cell? ⟨w.heap.size + 1 + 1, 5, none⟩ = some (.slice none 0 0) := (hb2.cell (p := ⟨w.heap.size + 1 + 1, 5, none⟩) hz2).trans r5
  have RZ : ∀ j, w2.frozen? ⟨w.heap.size + 1 + 1, j, none⟩ = false := fun j => (hb2.frozen (p := ⟨w.heap.size + 1 + 1, j, none⟩) hz2).trans (rz j)
  have N2 : w2.cell? ⟨w.heap.size + 1, 2, none⟩ = some (.int .u64 t) := (hb2.cell (p := ⟨w.heap.size + 1, 2, none⟩) hz1).trans m2
  have N4 : w2.cell? ⟨w.heap.size + 1, 4, none⟩ = some (.string d) := (hb2.cell (p := ⟨w.heap.size + 1, 4, none⟩) hz1).trans m4
  have L3 := K2.2.2.2.2.1
  have B2 : Below w.heap.size w w2 := hB.trans (hb2.mono hB.size)
  have hsz : w.heap.size + 1 + 1 + 1 < w2.heap.size := Nat.lt_of_lt_of_le hz hb2.size
  have hx : w.heap.size ≤ w.heap.size + 1 + 1 := by omega
  clear b0 b1 b2 b3 b4 b5 r0 r1 r2 r3 r4 r5 rz bz l0 l1 l2 l3 m1 m2 m4 K1 hb2 hB
  clear K2
  go_wp2_with fail
  have hlt0 : w.heap.size < w2.heap.size := by omega
  have hlt1 : w.heap.size + 1 < w2.heap.size := by omega
  have hlt2 : w.heap.size + 1 + 1 < w2.heap.size := by omega
  have hlt3 : w.heap.size + 1 + 1 + 1 < w2.heap.size := by omega
  have hl1 : L.length ≤ 1024 := by have := HN.out; omega
  have K2 : w2.drew.cell? ⟨w.heap.size + 1 + 1 + 1, 3, none⟩ = some (.slice a n c) ∧ w2.drew.cell? ⟨w.heap.size + 1, 2, none⟩ = some (.int .u64 t) ∧ w2.drew.cell? ⟨w.heap.size + 1, 4, none⟩ = some (.string d) := ⟨L3, N2, N4⟩
  go_region_held3 (fun w' => w'.cell? ⟨w.heap.size + 1 + 1 + 1, 3, none⟩ = some (.slice a n c) ∧ w'.cell? ⟨w.heap.size + 1, 2, none⟩ = some (.int .u64 t) ∧ w'.cell? ⟨w.heap.size + 1, 4, none⟩ = some (.string d))
    (first | (with_reducible assumption) | (with_reducible refine keepE L3 N2 N4 hlt3 hlt1 ?_; (first | exact hq.2 | exact hp.2.2 | exact hp.2.2.drew | exact hp.2.2.alloc hp.2.2.size _ | exact (hp.2.2.alloc hp.2.2.size _).drew | exact Below.refl _ _ | (go_grown; done))) | (with_reducible exact keepC K3 (by omega) (by omega)) | go_keep)
    (first
      | (refine step_app (by rfl) _ _ _ (by rfl) _ _ (by rfl) (by rfl) _ (app1W w2 _ _ _ a n c L ((HE.out.later B2).later ?_) HN.out hl ?_) ?_; (· (first | exact hq.2 | exact hp.2.2 | exact hp.2.2.drew | exact hp.2.2.alloc hp.2.2.size _ | exact (hp.2.2.alloc hp.2.2.size _).drew | exact Below.refl _ _ | (go_grown; done))); (· (first | exact hq.2 | exact hp.2.2 | exact hp.2.2.drew | exact hp.2.2.alloc hp.2.2.size _ | exact (hp.2.2.alloc hp.2.2.size _).drew | exact Below.refl _ _ | (go_grown; done))); intro u1 wn hp; have K3 := keepE L3 N2 N4 hlt3 hlt1 hp.2.2)
      | (refine step_app (by rfl) _ _ _ (by rfl) _ _ (by rfl) (by rfl) _ (app2W w2 _ _ _ L (hp.1.later ?_) hl1 _ 1 ⟨t, d⟩ ?_ ?_) ?_; (· (first | exact Below.refl _ _ | (go_grown; done))); (· (intro j u hj; rw [addHead]; first | exact news_new hj | exact news_a (L := enCells ⟨t, d⟩) hp.2.1 hj | exact news_b (L := enCells ⟨t, d⟩) hp.2.1 hj)); (· (first | exact hq.2 | exact hp.2.2 | exact hp.2.2.drew | exact hp.2.2.alloc hp.2.2.size _ | exact (hp.2.2.alloc hp.2.2.size _).drew | exact Below.refl _ _ | (go_grown; done))); intro u2 wm hq0; obtain ⟨⟨gg, cc, rfl⟩, hq⟩ := hq0; have K3 := keepE L3 N2 N4 hlt3 hlt1 hq.2; have P1 : wm.cell? ⟨w.heap.size, 5, none⟩ = some (.slice a n c) := (hq.2.cell (p := ⟨w.heap.size, 5, none⟩) hlt0).trans C5; have P2 : wm.frozen? ⟨w.heap.size, 5, none⟩ = false := (hq.2.frozen (p := ⟨w.heap.size, 5, none⟩) hlt0).trans (BZ 5)))
  all_goals
    have D0 : wm.cell? ⟨w.heap.size, 0, none⟩ = some (.int .u64 term) := (hq.2.cell (p := ⟨w.heap.size, 0, none⟩) hlt0).trans C0
    have D1 : wm.cell? ⟨w.heap.size, 1, none⟩ = some (.int .u64 vote) := (hq.2.cell (p := ⟨w.heap.size, 1, none⟩) hlt0).trans C1
    have D2 : wm.cell? ⟨w.heap.size, 2, none⟩ = some (.int .u64 base) := (hq.2.cell (p := ⟨w.heap.size, 2, none⟩) hlt0).trans C2
    have D3 : wm.cell? ⟨w.heap.size, 3, none⟩ = some (.int .u64 bt) := (hq.2.cell (p := ⟨w.heap.size, 3, none⟩) hlt0).trans C3
    have D4 : wm.cell? ⟨w.heap.size, 4, none⟩ = some (.string snap) := (hq.2.cell (p := ⟨w.heap.size, 4, none⟩) hlt0).trans C4
    have S0 : wm.cell? ⟨w.heap.size + 1 + 1, 0, none⟩ = some (.int .u64 0) := (hq.2.cell (p := ⟨w.heap.size + 1 + 1, 0, none⟩) hlt2).trans R0
    have S1 : wm.cell? ⟨w.heap.size + 1 + 1, 1, none⟩ = some (.int .u64 0) := (hq.2.cell (p := ⟨w.heap.size + 1 + 1, 1, none⟩) hlt2).trans R1
    have S2 : wm.cell? ⟨w.heap.size + 1 + 1, 2, none⟩ = some (.int .u64 0) := (hq.2.cell (p := ⟨w.heap.size + 1 + 1, 2, none⟩) hlt2).trans R2
    have S3 : wm.cell? ⟨w.heap.size + 1 + 1, 3, none⟩ = some (.int .u64 0) := (hq.2.cell (p := ⟨w.heap.size + 1 + 1, 3, none⟩) hlt2).trans R3
    have S4 : wm.cell? ⟨w.heap.size + 1 + 1, 4, none⟩ = some (.string ⟨#[]⟩) := (hq.2.cell (p := ⟨w.heap.size + 1 + 1, 4, none⟩) hlt2).trans R4
    have S5 : wm.cell? ⟨w.heap.size + 1 + 1, 5, none⟩ = some (.slice none 0 0) := (hq.2.cell (p := ⟨w.heap.size + 1 + 1, 5, none⟩) hlt2).trans R5
    have SZ : ∀ j, wm.frozen? ⟨w.heap.size + 1 + 1, j, none⟩ = false := fun j => (hq.2.frozen (p := ⟨w.heap.size + 1 + 1, j, none⟩) hlt2).trans (RZ j)
    obtain ⟨nn, hnn⟩ : ∃ nn, L.length + 1 = nn := ⟨_, rfl⟩
    have hlen : (L ++ [(⟨t, d⟩ : En)]).length = nn := by simp [hnn]
    have hrow := hq.1
    have hE3 := ents_of_owns hrow
    have hfar : w2.heap.size ≤ gg := (hrow.lt gg rfl).1
    have B3 : Below w.heap.size w wm := B2.trans (hq.2.mono B2.size)
    rw [hnn] at hE3 ⊢
    have HNN := Lib.hid hlen
    have HE3 := Lib.hid hE3
    clear hE3 hlen hnn hrow hq hp C0 C1 C2 C3 C4 C5 BZ R0 R1 R2 R3 R4 R5 RZ N2 N4 L3 K2 K3
    go_wp2_with fail
    refine bodyPost_ret (v := .agg #[.int .u64 term, .int .u64 vote, .int .u64 base, .int .u64 bt, .string snap, .slice (some ⟨gg, 0, none⟩) nn cc]) (by simp [results, Tryd.results39, go_sem, S0, S1, S2, S3, S4, S5]) rfl ?_
    obtain ⟨a', c', e', hE'⟩ := HE3.out
    cases e'
    have n2 : ∀ q, (some (⟨gg, 0, none⟩ : Addr)) = some q → q.block ≠ w.heap.size + 1 + 1 := fun q e => by cases e; simp only; omega
    have n0 : ∀ q, (some (⟨gg, 0, none⟩ : Addr)) = some q → q.block ≠ w.heap.size := fun q e => by cases e; simp only; omega
    refine ⟨_, _, rfl, ?_, ?_, .inr fun q e => by cases e; simp only; omega⟩
    · exact ents_set (ents_set (ents_set (ents_set (ents_set (ents_set (ents_set hE' n0 _ _) n2 _ _) n2 _ _) n2 _ _) n2 _ _) n2 _ _) n2 _ _
    · exact (((((((B3.setCell (Nat.le_refl _) _).setCell hx _).setCell hx _).setCell hx _).setCell hx _).setCell hx _).setCell hx _)
end Go.Proofs.YtjbhnkigbobhiaaDoor
