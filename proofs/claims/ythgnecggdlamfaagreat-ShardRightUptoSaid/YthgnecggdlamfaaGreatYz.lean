/- The law ShardRight. -/
import Derived.Test.YthgnecggdlamfaaGreatYq
import Derived.Test.YthgnecggdlamfaaGreatYy
import Derived.Test.YthgnecggdlamfaaGreatEe
namespace Go.Proofs.YthgnecggdlamfaaGreat
open Go.RowKit

/-- The program's contracts of Right and Same. -/
structure PRight (TT : World → Prop) : Prop where
  right : ∀ (s : Sh) (A : Sad) (w : World), TT w → ShM w s A → SzS s →
    Calls Tryz.prog 5 #[shV s A] w fun e w' => e = .returned (.bool (rightS s)) ∧ Below w.heap.size w w'
  same : ∀ (s : Sh) (A : Sad) (r : Sh) (B : Sad) (w : World), TT w → ShM w s A → SzS s → ShM w r B → SzS r →
    Calls Tryz.prog 7 #[shV s A, shV r B] w fun e w' => e = .returned (.bool (samS s r)) ∧ Below w.heap.size w w'
theorem keepS2 {w0 w w' : World} {x y : Nat} {v0 v1 v2 v3 v4 u0 u1 u2 u3 u4 : Value} (h : w.cell? ⟨x, 0, none⟩ = some v0 ∧ w.cell? ⟨x, 1, none⟩ = some v1 ∧ w.cell? ⟨x, 2, none⟩ = some v2 ∧ w.cell? ⟨x, 3, none⟩ = some v3 ∧ w.cell? ⟨x, 4, none⟩ = some v4 ∧ w.cell? ⟨y, 0, none⟩ = some u0 ∧ w.cell? ⟨y, 1, none⟩ = some u1 ∧ w.cell? ⟨y, 2, none⟩ = some u2 ∧ w.cell? ⟨y, 3, none⟩ = some u3 ∧ w.cell? ⟨y, 4, none⟩ = some u4 ∧ x < w.heap.size ∧ y < w.heap.size ∧ Below w0.heap.size w0 w) (hb : Below w.heap.size w w') :
    w'.cell? ⟨x, 0, none⟩ = some v0 ∧ w'.cell? ⟨x, 1, none⟩ = some v1 ∧ w'.cell? ⟨x, 2, none⟩ = some v2 ∧ w'.cell? ⟨x, 3, none⟩ = some v3 ∧ w'.cell? ⟨x, 4, none⟩ = some v4 ∧ w'.cell? ⟨y, 0, none⟩ = some u0 ∧ w'.cell? ⟨y, 1, none⟩ = some u1 ∧ w'.cell? ⟨y, 2, none⟩ = some u2 ∧ w'.cell? ⟨y, 3, none⟩ = some u3 ∧ w'.cell? ⟨y, 4, none⟩ = some u4 ∧ x < w'.heap.size ∧ y < w'.heap.size ∧ Below w0.heap.size w0 w' := by
  obtain ⟨a0, a1, a2, a3, a4, c0, c1, c2, c3, c4, hl, hx, hB⟩ := h
  have f : ∀ j v, w.cell? ⟨x, j, none⟩ = some v → w'.cell? ⟨x, j, none⟩ = some v := fun j v e => (hb.cell (p := ⟨x, j, none⟩) hl).trans e
  have g : ∀ j v, w.cell? ⟨y, j, none⟩ = some v → w'.cell? ⟨y, j, none⟩ = some v := fun j v e => (hb.cell (p := ⟨y, j, none⟩) hx).trans e
  exact ⟨f _ _ a0, f _ _ a1, f _ _ a2, f _ _ a3, f _ _ a4, g _ _ c0, g _ _ c1, g _ _ c2, g _ _ c3, g _ _ c4, Nat.lt_of_lt_of_le hl hb.size, Nat.lt_of_lt_of_le hx hb.size, hB.trans (hb.mono hB.size)⟩
set_option maxRecDepth 100000 in
set_option maxHeartbeats 4000000 in
theorem law_ShardRight {TT : World → Prop} (P : PShard TT) (P2 : PRight TT) (s : Sh) (A : Sad) (r : Sh) (B : Sad) (w : World) (hM : ShM w s A) (zs : SzS s) (hR : ShM w r B) (zr : SzS r) (hT : TT w) :
    Calls Tryz.prog 3 #[shV s A, shV r B] w fun e w' => e = .returned (.bool true) ∧ Below w.heap.size w w' := by
  have HS := Lib.hid (fun w' (hb : Below w.heap.size w w') => shown_any P w' (P.below hT hb))
  have R1 := Lib.hid (fun w' (hb : Below w.heap.size w w') => P2.right s A w' (P.below hT hb) (hM.later hb) zs)
  have R2 := Lib.hid (fun w' (hb : Below w.heap.size w w') => rRightS_any s A w' (hM.later hb) zs)
  have E1 := Lib.hid (fun w' (hb : Below w.heap.size w w') => P2.same s A r B w' (P.below hT hb) (hM.later hb) zs (hR.later hb) zr)
  have E2 := Lib.hid (fun w' (hb : Below w.heap.size w w') => rSameS_any s A r B w' (hM.later hb) zs (hR.later hb) zr)
  obtain ⟨q, hq⟩ : ∃ q, rightS s = q := ⟨_, rfl⟩
  obtain ⟨z, hz⟩ : ∃ z, samS s r = z := ⟨_, rfl⟩
  rw [hq] at R1 R2
  rw [hz] at E1 E2
  obtain ⟨W, hW⟩ : ∃ W, (w.alloc (.cells #[.slice A.ra s.rows.length A.rc, .slice A.ha s.holds.length A.hc, .slice A.oa s.opn.length A.oc, .slice A.da s.done.length A.dc, .int .u64 (s.ver : Nat)] 28)).alloc (.cells #[.slice B.ra r.rows.length B.rc, .slice B.ha r.holds.length B.hc, .slice B.oa r.opn.length B.oc, .slice B.da r.done.length B.dc, .int .u64 (r.ver : Nat)] 28) = W := ⟨_, rfl⟩
  obtain ⟨x2, hx2⟩ : ∃ x, w.heap.size = x := ⟨_, rfl⟩
  have hBX : Below w.heap.size w W ∧ ShB W x2 s A ∧ ShB W (x2 + 1) r B := by
    rw [← hW, ← hx2]
    exact ⟨by go_grown, ⟨by simp; omega, by simp [go_sem], by simp [go_sem], by simp [go_sem], by simp [go_sem], by simp [go_sem]⟩, ⟨by simp, by simp [go_sem], by simp [go_sem], by simp [go_sem], by simp [go_sem], by simp [go_sem]⟩⟩
  have HBX := Lib.hid hBX
  have HW := Lib.hid hW
  have HX2 := Lib.hid hx2
  clear hq hz hM hR zs zr hT P P2 hW hx2 hBX
  go_enter Tryz.func3, Tryz.ntmps3
  go_wp2_with fail
  rw [HW.out, HX2.out]
  refine (HS.out W HBX.out.1).mono ?_
  rintro e w1 ⟨rfl, hb1⟩
  obtain ⟨h1, h2⟩ := And.intro (HBX.out.2.1.later hb1) (HBX.out.2.2.later hb1)
  have S0 := Lib.hid (And.intro h1.c0 (And.intro h1.c1 (And.intro h1.c2 (And.intro h1.c3 (And.intro h1.c4 (And.intro h2.c0 (And.intro h2.c1 (And.intro h2.c2 (And.intro h2.c3 (And.intro h2.c4 (And.intro h1.lt (And.intro h2.lt (HBX.out.1.trans (hb1.mono HBX.out.1.size))))))))))))))
  clear h1 h2 hb1
  go_upto_region 2 with (fail)
  have S1 := keepS2 S0.out (Below.refl _ _).drew
  clear S0
  go_region_held3 (fun w' => w'.cell? ⟨x2, 0, none⟩ = some (.slice A.ra s.rows.length A.rc) ∧ w'.cell? ⟨x2, 1, none⟩ = some (.slice A.ha s.holds.length A.hc) ∧ w'.cell? ⟨x2, 2, none⟩ = some (.slice A.oa s.opn.length A.oc) ∧ w'.cell? ⟨x2, 3, none⟩ = some (.slice A.da s.done.length A.dc) ∧ w'.cell? ⟨x2, 4, none⟩ = some (.int .u64 (s.ver : Nat)) ∧ w'.cell? ⟨x2 + 1, 0, none⟩ = some (.slice B.ra r.rows.length B.rc) ∧ w'.cell? ⟨x2 + 1, 1, none⟩ = some (.slice B.ha r.holds.length B.hc) ∧ w'.cell? ⟨x2 + 1, 2, none⟩ = some (.slice B.oa r.opn.length B.oc) ∧ w'.cell? ⟨x2 + 1, 3, none⟩ = some (.slice B.da r.done.length B.dc) ∧ w'.cell? ⟨x2 + 1, 4, none⟩ = some (.int .u64 (r.ver : Nat)) ∧ x2 < w'.heap.size ∧ x2 + 1 < w'.heap.size ∧ Below w.heap.size w w')
    (first | (with_reducible assumption) | go_keep)
    (first
      | (go_at_call 5; (with_reducible refine (R1.out _ S1.2.2.2.2.2.2.2.2.2.2.2.2).mono ?_); rintro e2 w2 ⟨rfl, hb2⟩; have S2 := keepS2 S1 hb2)
      | (go_at_call 6; (with_reducible refine (R2.out _ S2.2.2.2.2.2.2.2.2.2.2.2.2).mono ?_); rintro e3 w3 ⟨rfl, hb3⟩; have S3 := keepS2 S2 hb3)
      | (go_at_call 7; (with_reducible refine (E1.out _ S3.2.2.2.2.2.2.2.2.2.2.2.2).mono ?_); rintro e4 w4 ⟨rfl, hb4⟩; have S4 := keepS2 S3 hb4)
      | (go_at_call 8; (with_reducible refine (E2.out _ S4.2.2.2.2.2.2.2.2.2.2.2.2).mono ?_); rintro e5 w5 ⟨rfl, hb5⟩; have S5 := keepS2 S4 hb5))
  all_goals
    have HB := Lib.hid S5.2.2.2.2.2.2.2.2.2.2.2.2
    clear S1 S2 S3 S4 S5 hb2 hb3 hb4 hb5
    go_wp2_with fail
    go_ret
    exact ⟨by first | rfl | simp, HB.out⟩
theorem pRight : PRight (fun _ => True) := ⟨fun s A w _ h z => pRightS_any s A w h z, fun s A r B w _ h z h2 z2 => pSameS_any s A r B w h z h2 z2⟩
end Go.Proofs.YthgnecggdlamfaaGreat
