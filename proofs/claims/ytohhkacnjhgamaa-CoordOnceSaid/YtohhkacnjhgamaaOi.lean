/- The law CoordFinds. -/
import Derived.Test.YtohhkacnjhgamaaPr
import Derived.Test.YtohhkacnjhgamaaOd
import Derived.Deep.RegionHeld3
namespace Go.Proofs.Ytohhkacnjhgamaa
open Go.RowKit

theorem FdP.uni {w : World} {L : List Dl} {A : Cad} {t : Tx} {e : Ending} {w' : World} (h : FdP w L A t e w') (hM : CoM w L A) (hp : ∀ x ∈ L, x.parts.length ≤ 140737488351232) :
    ∃ y : DlM, e = .returned (.tuple #[dlV y, .bool (fndC t L).isSome]) ∧ y.x = (fndC t L).getD ⟨⟨0, 0⟩, [], 0⟩ ∧ Nus w y.a y.x.parts ∧ y.x.parts.length ≤ 140737488351232 ∧ Below w.heap.size w w' := by
  obtain ⟨⟨h1, rfl⟩ | ⟨y, hy, h1, rfl⟩, hb⟩ := h
  · exact ⟨⟨⟨⟨0, 0⟩, [], 0⟩, none, 0⟩, by rw [h1]; rfl, by rw [h1]; rfl, fun k x hx => by simp at hx, Nat.zero_le _, hb⟩
  · exact ⟨y, by rw [h1]; rfl, by rw [h1]; rfl, hM.parts y hy, hp y.x (by rw [← hM.om]; exact List.mem_map.2 ⟨y, hy, rfl⟩), hb⟩
theorem keepF {w0 w w' : World} {x y z u : Nat} {v0 v1 z0 z1 z3 u0 u1 u3 : Value} (h : w.cell? ⟨x, 0, none⟩ = some v0 ∧ w.cell? ⟨y, 0, none⟩ = some v1 ∧ w.cell? ⟨z, 0, none⟩ = some z0 ∧ w.cell? ⟨z, 1, none⟩ = some z1 ∧ w.cell? ⟨z, 3, none⟩ = some z3 ∧ w.cell? ⟨u, 0, none⟩ = some u0 ∧ w.cell? ⟨u, 1, none⟩ = some u1 ∧ w.cell? ⟨u, 3, none⟩ = some u3 ∧ x < w.heap.size ∧ y < w.heap.size ∧ z < w.heap.size ∧ u < w.heap.size ∧ Below w0.heap.size w0 w) (hb : Below w.heap.size w w') :
    w'.cell? ⟨x, 0, none⟩ = some v0 ∧ w'.cell? ⟨y, 0, none⟩ = some v1 ∧ w'.cell? ⟨z, 0, none⟩ = some z0 ∧ w'.cell? ⟨z, 1, none⟩ = some z1 ∧ w'.cell? ⟨z, 3, none⟩ = some z3 ∧ w'.cell? ⟨u, 0, none⟩ = some u0 ∧ w'.cell? ⟨u, 1, none⟩ = some u1 ∧ w'.cell? ⟨u, 3, none⟩ = some u3 ∧ x < w'.heap.size ∧ y < w'.heap.size ∧ z < w'.heap.size ∧ u < w'.heap.size ∧ Below w0.heap.size w0 w' := by
  obtain ⟨a0, a1, b0, b1, b3, c0, c1, c3, l1, l2, l3, l4, hB⟩ := h
  have f : ∀ q j v, q < w.heap.size → w.cell? ⟨q, j, none⟩ = some v → w'.cell? ⟨q, j, none⟩ = some v := fun q j v l e => (hb.cell (p := ⟨q, j, none⟩) l).trans e
  have g : ∀ q, q < w.heap.size → q < w'.heap.size := fun q l => Nat.lt_of_lt_of_le l hb.size
  exact ⟨f _ _ _ l1 a0, f _ _ _ l2 a1, f _ _ _ l3 b0, f _ _ _ l3 b1, f _ _ _ l3 b3, f _ _ _ l4 c0, f _ _ _ l4 c1, f _ _ _ l4 c3, g _ l1, g _ l2, g _ l3, g _ l4, hB.trans (hb.mono hB.size)⟩
set_option maxRecDepth 100000 in
set_option maxHeartbeats 8000000 in
theorem law_CoordFinds (L R : List Dl) (A B : Cad) (t : Tx) (w : World) (hl : L.length ≤ 140737488351232) (hp8 : ∀ x ∈ L, x.parts.length * 8 ≤ 140737488355328) (ho : ∀ x ∈ L, okX x.t) (hox : okX t) (hr : R.length ≤ 140737488351232) (hq : ∀ x ∈ R, x.parts.length ≤ 140737488351232) (hM : CoM w L A) (hR : CoM w R B) :
    Calls Try.prog 3 #[coV L A, coV R B, txV t] w fun e w' => e = .returned (.bool true) ∧ Below w.heap.size w w' := by
  have hp : ∀ x ∈ L, x.parts.length ≤ 140737488351232 := fun x hx => by have := hp8 x hx; omega
  obtain ⟨ta, ti⟩ := t
  have HS := Lib.hid (fun w' (_ : Below w.heap.size w w') => shown_any w')
  have G1 := Lib.hid (fun w' (hb : Below w.heap.size w w') => pFind_any L A ⟨ta, ti⟩ w' (hM.later hb) hl hp8 ho hox)
  have G2 := Lib.hid (fun w' (hb : Below w.heap.size w w') => rFind_any L A ⟨ta, ti⟩ hl w' (hM.later hb))
  have R1 := Lib.hid (fun w' (hb : Below w.heap.size w w') => pRightC_any L A hl hp ho w' (hM.later hb))
  have R2 := Lib.hid (fun w' (hb : Below w.heap.size w w') => rRightC_any L A hl hp w' (hM.later hb))
  have E1 := Lib.hid (fun w' (hb : Below w.heap.size w w') => pSameC_any L R A B hl hp hr hq w' (hM.later hb) (hR.later hb))
  have E2 := Lib.hid (fun w' (hb : Below w.heap.size w w') => rSameC_any L R A B hl hp hr hq w' (hM.later hb) (hR.later hb))
  have HM := Lib.hid (fun w' (hb : Below w.heap.size w w') => hM.later hb)
  have HP := Lib.hid hp
  obtain ⟨q, hq2⟩ : ∃ q, rightC L = q := ⟨_, rfl⟩
  obtain ⟨z, hz⟩ : ∃ z, samC L R = z := ⟨_, rfl⟩
  obtain ⟨fo, hfo⟩ : ∃ f, fndC ⟨ta, ti⟩ L = f := ⟨_, rfl⟩
  have HFO := Lib.hid hfo
  rw [hq2] at R1 R2
  rw [hz] at E1 E2
  obtain ⟨W, hW⟩ : ∃ W, ((w.alloc (.cells #[.slice A.a L.length A.c] 24)).alloc (.cells #[.slice B.a R.length B.c] 24)).alloc (.cells #[.int .u64 (ta : Nat), .int .u64 (ti : Nat)] 27) = W := ⟨_, rfl⟩
  obtain ⟨x2, hx2⟩ : ∃ x, w.heap.size = x := ⟨_, rfl⟩
  have hBX : Below w.heap.size w W ∧ x2 < W.heap.size ∧ x2 + 1 < W.heap.size ∧ W.cell? ⟨x2, 0, none⟩ = some (.slice A.a L.length A.c) ∧ W.cell? ⟨x2 + 1, 0, none⟩ = some (.slice B.a R.length B.c) ∧ TxBox W (x2 + 1 + 1) ⟨ta, ti⟩ := by
    rw [← hW, ← hx2]
    exact ⟨by go_grown, by simp; omega, by simp, by simp [go_sem], by simp [go_sem], ⟨by simp, by simp [go_sem], by simp [go_sem]⟩⟩
  have F1 := Lib.hid (fun w' (h : Below W.heap.size W w') => (show w'.cell? ⟨x2, 0, none⟩ = some (.slice A.a L.length A.c) ∧ w'.cell? ⟨x2 + 1, 0, none⟩ = some (.slice B.a R.length B.c) ∧ w'.cell? ⟨x2 + 1 + 1, 0, none⟩ = some (.int .u64 (ta : Nat)) ∧ w'.cell? ⟨x2 + 1 + 1, 1, none⟩ = some (.int .u64 (ti : Nat)) ∧ Below w.heap.size w w' ∧ x2 < w'.heap.size ∧ x2 + 1 < w'.heap.size from
    ⟨(h.cell (p := ⟨x2, 0, none⟩) hBX.2.1).trans hBX.2.2.2.1, (h.cell (p := ⟨x2 + 1, 0, none⟩) hBX.2.2.1).trans hBX.2.2.2.2.1, (hBX.2.2.2.2.2.later h).c0, (hBX.2.2.2.2.2.later h).c1, hBX.1.trans (h.mono hBX.1.size), Nat.lt_of_lt_of_le hBX.2.1 h.size, Nat.lt_of_lt_of_le hBX.2.2.1 h.size⟩))
  have HBX := Lib.hid hBX.1
  have HW := Lib.hid hW
  have HX2 := Lib.hid hx2
  clear hq2 hz hM hR hp8 ho hox hW hx2 hBX hp hq hfo
  go_enter Try.func3, Try.ntmps3
  go_wp2_with fail
  rw [HW.out, HX2.out]
  refine (HS.out W HBX.out).mono ?_
  rintro e w1 ⟨rfl, hb1⟩
  have HB1 := Lib.hid hb1
  obtain ⟨c0, c1, c2, c3, hB1, _, _⟩ := F1.out w1 hb1
  clear hb1
  go_wp2_with fail
  refine (G1.out w1 hB1).mono ?_
  intro e w2 hf1
  obtain ⟨y1, rfl, e1, n1, l1, hb2⟩ := hf1
  rw [HFO.out] at e1 ⊢
  have HB2 := Lib.hid (HB1.out.trans (hb2.mono HB1.out.size))
  have HN1 := Lib.hid n1
  have HL1 := Lib.hid l1
  clear c0 c1 c2 c3 hB1 n1 l1 hb2
  obtain ⟨dd, hdd⟩ : ∃ d, fo.getD ⟨⟨0, 0⟩, [], 0⟩ = d := ⟨_, rfl⟩
  rw [hdd] at e1
  have HDD := Lib.hid hdd
  obtain ⟨ob, hob⟩ : ∃ b, fo.isSome = b := ⟨_, rfl⟩
  have HOB := Lib.hid hob
  rw [hob]
  clear hdd hob
  obtain ⟨x1, a1, k1⟩ := y1
  cases e1
  obtain ⟨⟨da, di⟩, dp, ds⟩ := x1
  obtain ⟨c0, c1, c2, c3, _, _, _⟩ := F1.out w2 HB2.out
  obtain ⟨W3, hW3⟩ : ∃ V, w2.alloc (.cells #[.int .u64 (da : Nat), .int .u64 (di : Nat), .slice a1 dp.length k1, .int .i64 ds] 31) = V := ⟨_, rfl⟩
  obtain ⟨z3, hz3⟩ : ∃ z, w2.heap.size = z := ⟨_, rfl⟩
  have BV : Below w2.heap.size w2 W3 := hW3 ▸ (Below.refl _ _).alloc (Nat.le_refl _) _
  have HV3 := Lib.hid (show z3 < W3.heap.size ∧ W3.cell? ⟨z3, 0, none⟩ = some (.int .u64 (da : Nat)) ∧ W3.cell? ⟨z3, 1, none⟩ = some (.int .u64 (di : Nat)) ∧ W3.cell? ⟨z3, 2, none⟩ = some (.slice a1 dp.length k1) ∧ W3.cell? ⟨z3, 3, none⟩ = some (.int .i64 ds) from by
    rw [← hW3, ← hz3]; exact ⟨by simp, by simp [go_sem], by simp [go_sem], by simp [go_sem], by simp [go_sem]⟩)
  have HB3 := Lib.hid (HB2.out.trans (BV.mono HB2.out.size))
  have HBV := Lib.hid BV
  clear c0 c1 c2 c3 BV
  obtain ⟨c0, c1, c2, c3, hB3, _, _⟩ := F1.out W3 HB3.out
  go_wp2_with fail
  refine (G2.out W3 hB3).mono ?_
  intro e w4 hf1
  obtain ⟨y2, rfl, e2, n2, l2, hb4⟩ := hf1.uni (HM.out W3 hB3) HP.out
  rw [HFO.out] at e2 ⊢
  rw [HOB.out]
  rw [HDD.out] at e2
  have HB4 := Lib.hid (HB3.out.trans (hb4.mono HB3.out.size))
  have HN2 := Lib.hid (n2.later hb4)
  have HL2 := Lib.hid l2
  have K3 : ∀ w' : World, Below W3.heap.size W3 w' → ∀ j v, W3.cell? ⟨z3, j, none⟩ = some v → w'.cell? ⟨z3, j, none⟩ = some v := fun w' hb j v e => (hb.cell (p := ⟨z3, j, none⟩) HV3.out.1).trans e
  have HK3 := Lib.hid K3
  clear hf1 c0 c1 c2 c3 hB3 n2 l2 K3
  obtain ⟨x1, a2, k2⟩ := y2
  cases e2
  obtain ⟨W5, hW5⟩ : ∃ V, w4.alloc (.cells #[.int .u64 (da : Nat), .int .u64 (di : Nat), .slice a2 dp.length k2, .int .i64 ds] 31) = V := ⟨_, rfl⟩
  obtain ⟨z5, hz5⟩ : ∃ z, w4.heap.size = z := ⟨_, rfl⟩
  have BV : Below w4.heap.size w4 W5 := hW5 ▸ (Below.refl _ _).alloc (Nat.le_refl _) _
  have HV5 := Lib.hid (show z5 < W5.heap.size ∧ W5.cell? ⟨z5, 0, none⟩ = some (.int .u64 (da : Nat)) ∧ W5.cell? ⟨z5, 1, none⟩ = some (.int .u64 (di : Nat)) ∧ W5.cell? ⟨z5, 2, none⟩ = some (.slice a2 dp.length k2) ∧ W5.cell? ⟨z5, 3, none⟩ = some (.int .i64 ds) from by
    rw [← hW5, ← hz5]; exact ⟨by simp, by simp [go_sem], by simp [go_sem], by simp [go_sem], by simp [go_sem]⟩)
  have HB35 := Lib.hid (hb4.trans (BV.mono hb4.size))
  have HN3 := Lib.hid ((HN1.out.later HBV.out).later HB35.out)
  have HN4 := Lib.hid (HN2.out.later BV)
  have HB5 := Lib.hid (HB3.out.trans (HB35.out.mono HB3.out.size))
  clear BV hb4
  obtain ⟨y0, y1, y2, y3⟩ := HV5.out.2
  have v2 := HK3.out _ HB35.out _ _ HV3.out.2.2.2.1
  have hsn := rSameN_any dp.length k1 dp.length k2 a1 a2 dp dp rfl HL1.out rfl HL1.out W5 HN3.out HN4.out
  rw [decide_eq_true (rfl : dp = dp)] at hsn
  have HSN := Lib.hid hsn
  clear hsn
  go_wp2_with fail
  refine HSN.out.mono ?_
  rintro e w6 ⟨rfl, hb6⟩
  have HB6 := Lib.hid (HB5.out.trans (hb6.mono HB5.out.size))
  obtain ⟨c0, c1, _, _, hB6, lx, ly⟩ := F1.out w6 HB6.out
  have K5 : ∀ j v, W5.cell? ⟨z5, j, none⟩ = some v → w6.cell? ⟨z5, j, none⟩ = some v := fun j v e => (hb6.cell (p := ⟨z5, j, none⟩) HV5.out.1).trans e
  have hb36 := HB35.out.trans (hb6.mono HB35.out.size)
  have S0 := Lib.hid (And.intro c0 (And.intro c1 (And.intro (HK3.out _ hb36 _ _ HV3.out.2.1) (And.intro (HK3.out _ hb36 _ _ HV3.out.2.2.1) (And.intro (HK3.out _ hb36 _ _ HV3.out.2.2.2.2) (And.intro (K5 _ _ HV5.out.2.1) (And.intro (K5 _ _ HV5.out.2.2.1) (And.intro (K5 _ _ HV5.out.2.2.2.2) (And.intro lx (And.intro ly (And.intro (Nat.lt_of_lt_of_le HV3.out.1 hb36.size) (And.intro (Nat.lt_of_lt_of_le HV5.out.1 hb6.size) hB6))))))))))))
  clear c0 c1 hB6 lx ly K5 hb36 hb6 y0 y1 y2 y3 v2 hW5 hz5 hW3 hz3
  go_upto_region 5 with (fail)
  have S1 := keepF S0.out (Below.refl _ _).drew
  clear S0
  have go1 : (ob == ob) = true := by simp
  go_region_held3 (fun w' => w'.cell? ⟨x2, 0, none⟩ = some (.slice A.a L.length A.c) ∧ w'.cell? ⟨x2 + 1, 0, none⟩ = some (.slice B.a R.length B.c) ∧ w'.cell? ⟨z3, 0, none⟩ = some (.int .u64 (da : Nat)) ∧ w'.cell? ⟨z3, 1, none⟩ = some (.int .u64 (di : Nat)) ∧ w'.cell? ⟨z3, 3, none⟩ = some (.int .i64 ds) ∧ w'.cell? ⟨z5, 0, none⟩ = some (.int .u64 (da : Nat)) ∧ w'.cell? ⟨z5, 1, none⟩ = some (.int .u64 (di : Nat)) ∧ w'.cell? ⟨z5, 3, none⟩ = some (.int .i64 ds) ∧ x2 < w'.heap.size ∧ x2 + 1 < w'.heap.size ∧ z3 < w'.heap.size ∧ z5 < w'.heap.size ∧ Below w.heap.size w w')
    (first | (with_reducible assumption) | go_keep)
    (first
      | (go_at_call 12; (with_reducible refine (R1.out _ S1.2.2.2.2.2.2.2.2.2.2.2.2).mono ?_); rintro e2 w2 ⟨rfl, hb2⟩; have S2 := keepF S1 hb2)
      | (go_at_call 13; (with_reducible refine (R2.out _ S2.2.2.2.2.2.2.2.2.2.2.2.2).mono ?_); rintro e3 w3 ⟨rfl, hb3⟩; have S3 := keepF S2 hb3)
      | (go_at_call 14; (with_reducible refine (E1.out _ S3.2.2.2.2.2.2.2.2.2.2.2.2).mono ?_); rintro e4 w4 ⟨rfl, hb4⟩; have S4 := keepF S3 hb4)
      | (go_at_call 15; (with_reducible refine (E2.out _ S4.2.2.2.2.2.2.2.2.2.2.2.2).mono ?_); rintro e5 w5 ⟨rfl, hb5⟩; have S5 := keepF S4 hb5))
  all_goals
    have HB := Lib.hid S5.2.2.2.2.2.2.2.2.2.2.2.2
    clear S1 S2 S3 S4 S5 hb2 hb3 hb4 hb5
    go_wp2_with fail
    go_ret
    exact ⟨by first | rfl | simp, HB.out⟩
end Go.Proofs.Ytohhkacnjhgamaa
