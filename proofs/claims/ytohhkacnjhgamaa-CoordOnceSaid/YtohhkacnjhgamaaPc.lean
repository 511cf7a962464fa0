/- A deal that shares no memory. -/
import Derived.Test.YtohhkacnjhgamaaPb
namespace Go.Proofs.Ytohhkacnjhgamaa
open Go.RowKit

/-- What copiedDeal answers. -/
def CdP (w : World) (y : DlM) (e : Ending) (w' : World) : Prop := ∃ a c, e = .returned (dlV ⟨y.x, a, c⟩) ∧ Nus w' a y.x.parts ∧ LI a w.heap.size w'.heap.size ∧ (y.x.parts.length ≤ c ∧ c ≤ maxLen) ∧ Below w.heap.size w w'
abbrev dK : List Nat := [2, 2, 1, 3]
theorem KB.new4 {w : World} {x : Nat} (hx : x = w.heap.size) (v0 v1 v2 v3 : Value) (T : TypeId) : KB (w.alloc (.cells #[v0, v1, v2, v3] T)) x [kdV v0, kdV v1, kdV v2, kdV v3] := by
  subst hx
  refine ⟨fun o u e => ?_, fun o ho => ?_, fun j => by simp [go_sem], by simp⟩
  · match o, e with
    | 0, e => simp [go_sem] at e; simp [e]
    | 1, e => simp [go_sem] at e; simp [e]
    | 2, e => simp [go_sem] at e; simp [e]
    | 3, e => simp [go_sem] at e; simp [e]
    | o + 4, e => simp [go_sem] at e
  · match o, ho with
    | 0, _ => exact ⟨v0, by simp [go_sem]⟩
    | 1, _ => exact ⟨v1, by simp [go_sem]⟩
    | 2, _ => exact ⟨v2, by simp [go_sem]⟩
    | 3, _ => exact ⟨v3, by simp [go_sem]⟩
    | o + 4, h => simp at h; omega
@[reducible] def set4s (w1 : World) (x : Nat) (v0 v1 v2 v3 : Value) : World := (((w1.setCell ⟨x, 0, none⟩ v0).setCell ⟨x, 1, none⟩ v1).setCell ⟨x, 2, none⟩ v2).setCell ⟨x, 3, none⟩ v3
theorem set4s_grown (w : World) (x : Nat) (v0 v1 v2 v3 : Value) : w.grownBy (set4s w x v0 v1 v2 v3) (some x) := by
  unfold set4s
  exact grown_trans (sc_one _ _ _ _) (grown_trans (sc_one _ _ _ _) (grown_trans (sc_one _ _ _ _) (sc_one _ _ _ _)))
/-- Four cells of a deal's box. -/
structure DB (w : World) (x : Nat) (y : DlM) : Prop where
  kb : KB w x dK
  c0 : w.cell? ⟨x, 0, none⟩ = some (.int .u64 (y.x.t.age : Nat))
  c1 : w.cell? ⟨x, 1, none⟩ = some (.int .u64 (y.x.t.id : Nat))
  c2 : w.cell? ⟨x, 2, none⟩ = some (.slice y.a y.x.parts.length y.c)
  c3 : w.cell? ⟨x, 3, none⟩ = some (.int .i64 y.x.st)
theorem DB.later {w w' : World} {x : Nat} {y : DlM} (h : DB w x y) (hb : Below w.heap.size w w') : DB w' x y := by
  have f : ∀ j v, w.cell? ⟨x, j, none⟩ = some v → w'.cell? ⟨x, j, none⟩ = some v := fun j v e => (hb.cell (p := ⟨x, j, none⟩) h.kb.lt).trans e
  exact ⟨h.kb.later hb, f _ _ h.c0, f _ _ h.c1, f _ _ h.c2, f _ _ h.c3⟩
theorem DB.new {w : World} {x : Nat} (hx : x = w.heap.size) (y : DlM) (T : TypeId) : DB (w.alloc (.cells #[.int .u64 (y.x.t.age : Nat), .int .u64 (y.x.t.id : Nat), .slice y.a y.x.parts.length y.c, .int .i64 y.x.st] T)) x y := by
  subst hx
  exact ⟨KB.new4 rfl _ _ _ _ T, by simp [go_sem], by simp [go_sem], by simp [go_sem], by simp [go_sem]⟩
set_option maxRecDepth 100000 in
set_option maxHeartbeats 4000000 in
theorem copiedDeal_any (y : DlM) (hl : y.x.parts.length * 8 ≤ 140737488355328) (w : World) (hM : Nus w y.a y.x.parts) :
    Calls Try.prog 18 #[dlV y] w (CdP w y) := by
  obtain ⟨⟨⟨ta, ti⟩, p, st⟩, a, c⟩ := y
  simp only at hl hM
  obtain ⟨n, hn⟩ : ∃ n, p.length = n := ⟨_, rfl⟩
  show Calls Try.prog 18 #[.agg #[.int .u64 (ta : Nat), .int .u64 (ti : Nat), .slice a p.length c, .int .i64 st]] w _
  obtain ⟨W, hW⟩ : ∃ W, (w.alloc (.cells #[.int .u64 (ta : Nat), .int .u64 (ti : Nat), .slice a p.length c, .int .i64 st] 31)).alloc (.cells #[.int .u64 0, .int .u64 0, .slice none 0 0, .int .i64 0] 31) = W := ⟨_, rfl⟩
  obtain ⟨x1, hx1⟩ : ∃ x, w.heap.size = x := ⟨_, rfl⟩
  have hX : Below w.heap.size w W ∧ DB W x1 ⟨⟨⟨ta, ti⟩, p, st⟩, a, c⟩ ∧ KB W (x1 + 1) dK ∧ W.heap.size = x1 + 1 + 1 := by
    rw [← hW, ← hx1]
    refine ⟨by go_grown, (DB.new rfl ⟨⟨⟨ta, ti⟩, p, st⟩, a, c⟩ _).later ((Below.refl _ _).alloc (Nat.le_refl _) _), KB.new4 (by simp) _ _ _ _ _, by simp⟩
  obtain ⟨hB, hD, hK, hs⟩ := hX
  have HC := Lib.hid (cloneU_any n c a p hn (by omega) W (hM.later hB))
  have HB := Lib.hid hB
  have HK := Lib.hid hK
  have HD := Lib.hid hD
  have HS := Lib.hid hs
  have HN := Lib.hid hn
  have HW := Lib.hid hW
  have HX1 := Lib.hid hx1
  obtain ⟨_, c0, c1, c2, c3⟩ := hD
  simp only at c0 c1 c2 c3
  rw [hn] at c2 HW ⊢
  clear hM hB hK hs hn hW hx1 hl
  go_enter Try.func18, Try.ntmps18
  go_wp2_with fail
  rw [HW.out, HX1.out]
  go_wp2_with fail
  refine HC.out.mono ?_
  rintro e w2 ⟨a2, d2, rfl, q2, b2, l2⟩
  rw [HN.out] at q2 ⊢
  have HD2 := Lib.hid (HD.out.later b2)
  have HK2 := Lib.hid (HK.out.later b2)
  obtain ⟨_, _, e2, R2, _, m2, M2⟩ := q2.form nuT
  injection e2 with e2 g2 f2
  clear g2
  subst e2 f2
  obtain ⟨kb, d0, d1, d2', d3⟩ := HD2.out
  simp only at d0 d1 d2' d3
  have kf := kb.fz
  obtain ⟨_, ks, kz, kl⟩ := HK2.out
  obtain ⟨u0, e0⟩ := ks 0 (by decide)
  obtain ⟨u1, e1⟩ := ks 1 (by decide)
  obtain ⟨u2, e2⟩ := ks 2 (by decide)
  obtain ⟨u3, e3⟩ := ks 3 (by decide)
  rw [HN.out] at m2 d2'
  have hx : ¬ x1 + 1 = x1 := by omega
  have HFIN := Lib.hid (show CdP w ⟨⟨⟨ta, ti⟩, p, st⟩, a, c⟩ (.returned (.agg #[.int .u64 (ta : Nat), .int .u64 (ti : Nat), .slice a2 n d2, .int .i64 st])) (set4s (w2.setCell ⟨x1, 2, none⟩ (.slice a2 n d2)) (x1 + 1) (.int .u64 (ta : Nat)) (.int .u64 (ti : Nat)) (.slice a2 n d2) (.int .i64 st)) from by
    have hs := HS.out
    have hx1 := HX1.out
    have hL : LI a2 W.heap.size w2.heap.size := l2
    have g1 := sc_one w2 x1 2 (.slice a2 n d2)
    have g2 := set4s_grown (w2.setCell ⟨x1, 2, none⟩ (.slice a2 n d2)) (x1 + 1) (.int .u64 (ta : Nat)) (.int .u64 (ti : Nat)) (.slice a2 n d2) (.int .i64 st)
    refine ⟨a2, d2, by rw [← HN.out], rw_grown (rw_grown R2 g1 ((hL.ne (.inl (by omega))).nb _)) g2 ((hL.ne (.inl (by omega))).nb _), hL.mono (by omega) (by have := g1.size; have := g2.size; omega), ⟨by simp only [HN.out]; exact m2, M2⟩, ?_⟩
    have hb := HB.out.trans (b2.mono HB.out.size)
    exact (hb.grown g1 hb.size (fun k e => by cases e; omega)).grown g2 (Nat.le_trans hb.size g1.size) (fun k e => by cases e; omega))
  clear HC HB HK HD HD2 HK2 q2 b2 l2 R2 m2 M2 c0 c1 c2 c3 kb ks
  go_wp2_with fail
  refine bodyPost_ret (v := .agg #[.int .u64 (ta : Nat), .int .u64 (ti : Nat), .slice a2 n d2, .int .i64 st]) (by simp [results, Try.results18, go_sem, e0, e1, e2, e3]) rfl ?_
  exact HFIN.out
end Go.Proofs.Ytohhkacnjhgamaa
