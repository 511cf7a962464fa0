/- A log is compacted. -/
import Derived.Test.YtdcpiaoadbbdoaaGreatDoorRb
import Derived.Test.YtdcpiaoadbbdoaaGreatDoorRcd
import Derived.Test.YtdcpiaoadbbdoaaGreatDoorQrm
import Derived.Test.YtdcpiaoadbbdoaaGreatDoorQin
import Derived.Test.YtdcpiaoadbbdoaaGreatDoorZk
set_option maxRecDepth 100000
set_option maxHeartbeats 16000000
namespace Go.Proofs.YtdcpiaoadbbdoaaGreatDoor
open Go.RowKit

theorem boxLog : BoxT 28 := by unfold BoxT; decide
theorem pCompact8_1 (p : Pn) (d : Ad) (hBd : Bd p) (i : Nat) (_ : i < 18446744073709551616) (app : ByteArray) (_ : app.size ≤ 140737488351232) (K : Nat) (w : World) (_ : K ≤ w.heap.size) (_ : Tz w) (hM : NdM K w p d) (h1 : p.commit < i) :
 Calls Tryz.prog 14 #[ndV p d, .int .u64 i, .string app] w (CxP K w (cmpX p i app) (cmpP p i app)) := by
 obtain ⟨W, hW, B0, N0, Z0⟩ := nk_new w p d
 obtain ⟨W1, y, hW1, hy, B1, HR, Z1⟩ := bk_new W znA 34
 have HN := N0.later (hy ▸ B1)
 have HB := B0.trans (B1.mono (by have := Z0.out; omega))
 have hyn := hI_ (show w.heap.size < y by have := Z0.out; omega)
 clear B0 N0 B1
 unfold ndA at hW
 unfold znA at hW1
 obtain ⟨W2, yl, hW2, hyl, B2, HL, Z2⟩ := bk_new W1 #[.int .u64 p.g.base, .int .u64 p.g.bt, .string p.g.snap, .slice d.e.a p.g.L.length d.e.c] 28
 have B2' : Below W1.heap.size W1 W2 := hyl ▸ B2
 have HN1 := HN
 replace HN := HN.later B2'
 replace HR := HR.later B2'
 replace HB := HB.trans (B2'.mono HB.size)
 have hyl2 := hI_ (show y < yl by have := Z1.out; omega)
 have HM := hM.later HB
 clear hM B2 B2'
 have hbs := hBd.base
 have hes := hBd.ents
 have hcm := hBd.commit
 have HEN := hI_ (show ∀ w1, Below w.heap.size w w1 → NdM K w1 p d → Calls Tryz.prog 31 #[ndV p d] w1 fun e w' => e = .returned (.int .u64 (p.endI : Nat)) ∧ Below w1.heap.size w1 w' from fun w1 _ h => pEndW_any p d hBd.base hBd.ents K w1 h)
 have e0 : cmpX p i app = 1 := by unfold cmpX; rw [if_pos (.inl h1)]
 have HX := hI_ (CxP.no (K := K) (w := w) (x := 1) (q := cmpP p i app) (by decide))
 rw [e0]
 clear e0
 have g1 : decide ((p.commit : Int) < (i : Int)) = true := by simp; omega
 go_enter Tryz.func14, Tryz.ntmps14
 go_wp2_with (first
  | (refine lSb rfl _ rfl rfl [.int .u64 p.g.base, .int .u64 p.g.bt, .string p.g.snap, .slice d.e.a p.g.L.length d.e.c] logT (by assumption) rfl rfl ?_)
  | (refine lCc rfl _ rfl rfl (ocA rfl) (by assumption) rfl ?_)
  | (refine sBk rfl _ _ rfl rfl (M := znA.toList) rfl nodeT HR rfl rfl rfl ?_; intro w' hk hg; replace HB := bGr HB hg HB.size (by have := hyn.out; omega); replace HR := hk; clear hk hg))
 refine bodyPost_ret (v := .tuple #[.agg znA, .int .i64 (1)]) (by rw [rBt Tryz.results14 _ rfl nodeT HR rfl]; rfl) rfl ?_
 exact HX.out _ HB
theorem pCompact8_2 (p : Pn) (d : Ad) (hBd : Bd p) (i : Nat) (_ : i < 18446744073709551616) (app : ByteArray) (_ : app.size ≤ 140737488351232) (K : Nat) (w : World) (_ : K ≤ w.heap.size) (_ : Tz w) (hM : NdM K w p d) (h1 : ¬ p.commit < i) (h2 : i ≤ p.g.base) :
 Calls Tryz.prog 14 #[ndV p d, .int .u64 i, .string app] w (CxP K w (cmpX p i app) (cmpP p i app)) := by
 obtain ⟨W, hW, B0, N0, Z0⟩ := nk_new w p d
 obtain ⟨W1, y, hW1, hy, B1, HR, Z1⟩ := bk_new W znA 34
 have HN := N0.later (hy ▸ B1)
 have HB := B0.trans (B1.mono (by have := Z0.out; omega))
 have hyn := hI_ (show w.heap.size < y by have := Z0.out; omega)
 clear B0 N0 B1
 unfold ndA at hW
 unfold znA at hW1
 obtain ⟨W2, yl, hW2, hyl, B2, HL, Z2⟩ := bk_new W1 #[.int .u64 p.g.base, .int .u64 p.g.bt, .string p.g.snap, .slice d.e.a p.g.L.length d.e.c] 28
 have B2' : Below W1.heap.size W1 W2 := hyl ▸ B2
 have HN1 := HN
 replace HN := HN.later B2'
 replace HR := HR.later B2'
 replace HB := HB.trans (B2'.mono HB.size)
 have hyl2 := hI_ (show y < yl by have := Z1.out; omega)
 have HM := hM.later HB
 clear hM B2 B2'
 have hbs := hBd.base
 have hes := hBd.ents
 have hcm := hBd.commit
 have HEN := hI_ (show ∀ w1, Below w.heap.size w w1 → NdM K w1 p d → Calls Tryz.prog 31 #[ndV p d] w1 fun e w' => e = .returned (.int .u64 (p.endI : Nat)) ∧ Below w1.heap.size w1 w' from fun w1 _ h => pEndW_any p d hBd.base hBd.ents K w1 h)
 have e0 : cmpX p i app = 1 := by unfold cmpX; rw [if_pos (.inr (.inl h2))]
 have HX := hI_ (CxP.no (K := K) (w := w) (x := 1) (q := cmpP p i app) (by decide))
 rw [e0]
 clear e0
 have g1 : decide ((p.commit : Int) < (i : Int)) = false := by simp; omega
 have g2 : decide ((i : Int) ≤ (p.g.base : Int)) = true := by simp; omega
 have l0 := HL.bx.c 0 _ rfl
 go_enter Tryz.func14, Tryz.ntmps14
 go_wp2_with (first
  | (refine lSb rfl _ rfl rfl [.int .u64 p.g.base, .int .u64 p.g.bt, .string p.g.snap, .slice d.e.a p.g.L.length d.e.c] logT (by assumption) rfl rfl ?_)
  | (refine lCc rfl _ rfl rfl (ocA rfl) (by assumption) rfl ?_)
  | (refine sBk rfl _ _ rfl rfl (M := znA.toList) rfl nodeT HR rfl rfl rfl ?_; intro w' hk hg; replace HB := bGr HB hg HB.size (by have := hyn.out; omega); replace HR := hk; clear hk hg))
 refine bodyPost_ret (v := .tuple #[.agg znA, .int .i64 (1)]) (by rw [rBt Tryz.results14 _ rfl nodeT HR rfl]; rfl) rfl ?_
 exact HX.out _ HB
theorem pCompact8_3 (p : Pn) (d : Ad) (hBd : Bd p) (i : Nat) (_ : i < 18446744073709551616) (app : ByteArray) (_ : app.size ≤ 140737488351232) (K : Nat) (w : World) (_ : K ≤ w.heap.size) (_ : Tz w) (hM : NdM K w p d) (h1 : ¬ p.commit < i) (h2 : ¬ i ≤ p.g.base) (h3 : p.endI < i) :
 Calls Tryz.prog 14 #[ndV p d, .int .u64 i, .string app] w (CxP K w (cmpX p i app) (cmpP p i app)) := by
 obtain ⟨W, hW, B0, N0, Z0⟩ := nk_new w p d
 obtain ⟨W1, y, hW1, hy, B1, HR, Z1⟩ := bk_new W znA 34
 have HN := N0.later (hy ▸ B1)
 have HB := B0.trans (B1.mono (by have := Z0.out; omega))
 have hyn := hI_ (show w.heap.size < y by have := Z0.out; omega)
 clear B0 N0 B1
 unfold ndA at hW
 unfold znA at hW1
 obtain ⟨W2, yl, hW2, hyl, B2, HL, Z2⟩ := bk_new W1 #[.int .u64 p.g.base, .int .u64 p.g.bt, .string p.g.snap, .slice d.e.a p.g.L.length d.e.c] 28
 have B2' : Below W1.heap.size W1 W2 := hyl ▸ B2
 have HN1 := HN
 replace HN := HN.later B2'
 replace HR := HR.later B2'
 replace HB := HB.trans (B2'.mono HB.size)
 have hyl2 := hI_ (show y < yl by have := Z1.out; omega)
 have HM := hM.later HB
 clear hM B2 B2'
 have hbs := hBd.base
 have hes := hBd.ents
 have hcm := hBd.commit
 have HEN := hI_ (show ∀ w1, Below w.heap.size w w1 → NdM K w1 p d → Calls Tryz.prog 31 #[ndV p d] w1 fun e w' => e = .returned (.int .u64 (p.endI : Nat)) ∧ Below w1.heap.size w1 w' from fun w1 _ h => pEndW_any p d hBd.base hBd.ents K w1 h)
 have e0 : cmpX p i app = 1 := by unfold cmpX; rw [if_pos (.inr (.inr h3))]
 have HX := hI_ (CxP.no (K := K) (w := w) (x := 1) (q := cmpP p i app) (by decide))
 rw [e0]
 clear e0
 have g1 : decide ((p.commit : Int) < (i : Int)) = false := by simp; omega
 have g2 : decide ((i : Int) ≤ (p.g.base : Int)) = false := by simp; omega
 have l0 := HL.bx.c 0 _ rfl
 have g3 : decide ((p.endI : Int) < (i : Int)) = true := by simp; omega
 have g3' : (p.endI : Int) < (i : Int) := by omega
 go_enter Tryz.func14, Tryz.ntmps14
 go_wp2_with (first
  | (refine lSb rfl _ rfl rfl [.int .u64 p.g.base, .int .u64 p.g.bt, .string p.g.snap, .slice d.e.a p.g.L.length d.e.c] logT (by assumption) rfl rfl ?_)
  | (refine lCc rfl _ rfl rfl (ocA rfl) (by assumption) rfl ?_)
  | (refine wpList_load_bkg (by rfl) _ rfl rfl nodeT HN rfl ?_))
 refine (HEN.out _ HB HM).mono ?_
 rintro e w2 ⟨rfl, hb⟩
 replace HB := HB.trans (hb.mono HB.size)
 replace HR := HR.later hb
 replace HN := HN.later hb
 replace HL := HL.later hb
 replace HM := HM.later hb
 clear hb l0
 go_wp2_with (first
  | (refine sBk rfl _ _ rfl rfl (M := znA.toList) rfl nodeT HR rfl rfl rfl ?_; intro w' hk hg; replace HB := bGr HB hg HB.size (by have := hyn.out; omega); replace HR := hk; clear hk hg))
 refine bodyPost_ret (v := .tuple #[.agg znA, .int .i64 (1)]) (by rw [rBt Tryz.results14 _ rfl nodeT HR rfl]; rfl) rfl ?_
 exact HX.out _ HB
theorem pCompact8_4 (p : Pn) (d : Ad) (hBd : Bd p) (i : Nat) (hi : i < 18446744073709551616) (app : ByteArray) (ha : app.size ≤ 140737488351232) (K : Nat) (w : World) (hK : K ≤ w.heap.size) (hT : Tz w) (hM : NdM K w p d) (h1 : ¬ p.commit < i) (h2 : ¬ i ≤ p.g.base) (h3 : ¬ p.endI < i) (h4 : 4096 < (cmpS p i app).size) :
 Calls Tryz.prog 14 #[ndV p d, .int .u64 i, .string app] w (CxP K w (cmpX p i app) (cmpP p i app)) := by
 obtain ⟨W, hW, B0, N0, Z0⟩ := nk_new w p d
 obtain ⟨W1, y, hW1, hy, B1, HR, Z1⟩ := bk_new W znA 34
 have HN := N0.later (hy ▸ B1)
 have HB := B0.trans (B1.mono (by have := Z0.out; omega))
 have hyn := hI_ (show w.heap.size < y by have := Z0.out; omega)
 clear B0 N0 B1
 unfold ndA at hW
 unfold znA at hW1
 obtain ⟨W2, yl, hW2, hyl, B2, HL, Z2⟩ := bk_new W1 #[.int .u64 p.g.base, .int .u64 p.g.bt, .string p.g.snap, .slice d.e.a p.g.L.length d.e.c] 28
 have B2' : Below W1.heap.size W1 W2 := hyl ▸ B2
 have HN1 := HN
 replace HN := HN.later B2'
 replace HR := HR.later B2'
 replace HB := HB.trans (B2'.mono HB.size)
 have hyl2 := hI_ (show y < yl by have := Z1.out; omega)
 have HM := hM.later HB
 clear hM B2 B2'
 have hbs := hBd.base
 have hes := hBd.ents
 have hcm := hBd.commit
 have HEN := hI_ (show ∀ w1, Below w.heap.size w w1 → NdM K w1 p d → Calls Tryz.prog 31 #[ndV p d] w1 fun e w' => e = .returned (.int .u64 (p.endI : Nat)) ∧ Below w1.heap.size w1 w' from fun w1 _ h => pEndW_any p d hBd.base hBd.ents K w1 h)
 obtain ⟨k, hk⟩ : ∃ k, i - p.g.base = k := ⟨_, rfl⟩
 have hkl : k ≤ p.g.L.length ∧ 0 < k := by unfold Pn.endI at h3; omega
 obtain ⟨T, hTk⟩ : ∃ T, p.g.L.take k = T := ⟨_, rfl⟩
 have hTl : T.length = k := by rw [← hTk, List.length_take]; omega
 have HTE := hI_ (show ∀ w1, NdM K w1 p d → Ents w1 d.e.a T from fun w1 h j x hx => by rw [← hTk] at hx; exact h.e j x (by have hj := (List.getElem?_eq_some_iff.1 hx).1; rw [List.length_take] at hj; rw [List.getElem?_take_of_lt (by omega)] at hx; exact hx))
 have HTD := hI_ (show ∀ x ∈ T, x.d.size ≤ 140737488351232 from fun x hx => by rw [← hTk] at hx; exact (hBd.data x (List.mem_of_mem_take hx)).2)
 obtain ⟨c9, hc9⟩ : ∃ c9, confA p.c { p.g with L := T } = c9 := ⟨_, rfl⟩
 have hm9 : mayB c9.V c9.L = true := by rw [← hc9]; exact confA_may _ hBd.may
 have HCA := hI_ (show ∀ w1, NdM K w1 p d → Calls Tryz.prog 49 #[.agg #[.slice d.v.a p.c.V.length d.v.c, .slice d.l.a p.c.L.length d.l.c], .agg #[.int .u64 p.g.base, .int .u64 p.g.bt, .string p.g.snap, .slice d.e.a k d.e.c]] w1 (CfQ w1 p.c d.v d.l c9) from fun w1 h => by
  have h4 := pConfAt_any p.c d.v d.l d.e { p.g with L := T } (by show T.length ≤ _; omega) HTD.out hBd.snap w1 h.v h.l (HTE.out w1 h)
  rw [hc9] at h4
  simp only [hTl] at h4
  exact h4)
 obtain ⟨S, hS⟩ : ∃ S, snapD c9 app = S := ⟨_, rfl⟩
 have hcs : cmpS p i app = S := by unfold cmpS; rw [hk, hTk, hc9, hS]
 have HSN := hI_ (show ∀ w1 s1 s2, Us w1 (Sa.a s1) c9.V → Us w1 (Sa.a s2) c9.L → Tz w1 → Calls Tryz.prog 48 #[.agg #[.slice s1.a c9.V.length s1.c, .slice s2.a c9.L.length s2.c], .string app] w1 fun e w' => e = .returned (.string S) ∧ Below w1.heap.size w1 w' from fun w1 s1 s2 h h' h'' => by
  have h4 := pSnapshot_any c9 s1 s2 hm9 app ha w1 h h' h''
  rw [hS] at h4; exact h4)
 have wk : IntKind.u64.wrap ((i : Int) - (p.g.base : Int)) = (k : Int) := by rw [IntWalk.u64_in _ (by omega)]; omega
 have wk2 : IntKind.i64.wrap (k : Int) = (k : Int) := by rw [IntKind.wrap_i64]; omega
 have hec := HM.ec
 have hem := HM.em
 have wk3 : (0 : Int) ≤ (k : Int) := by omega
 have wk4 : (k : Int) ≤ (d.e.c : Int) := by omega
 have wk5 : k ≤ d.e.c := by omega
 have HTZ := hI_ (show ∀ w1, Below w.heap.size w w1 → Tz w1 from fun w1 h => hT.below (h.mono hT.n))
 clear hk hTk hTl hc9 hS hm9
 have e0 : cmpX p i app = 4 := by unfold cmpX; rw [if_neg (by omega), if_pos h4]
 have HX := hI_ (CxP.no (K := K) (w := w) (x := 4) (q := cmpP p i app) (by decide))
 rw [e0]
 rw [hcs] at h4
 have g4 : (4096 : Int) < (S.size : Int) := by omega
 clear e0 hcs
 have g1 : decide ((p.commit : Int) < (i : Int)) = false := by simp; omega
 have g2 : decide ((i : Int) ≤ (p.g.base : Int)) = false := by simp; omega
 have l0 := HL.bx.c 0 _ rfl
 have g3 : decide ((p.endI : Int) < (i : Int)) = false := by simp; omega
 have g3' : ¬ (p.endI : Int) < (i : Int) := by omega
 go_enter Tryz.func14, Tryz.ntmps14
 go_wp2_with (first
  | (refine lSb rfl _ rfl rfl [.int .u64 p.g.base, .int .u64 p.g.bt, .string p.g.snap, .slice d.e.a p.g.L.length d.e.c] logT (by assumption) rfl rfl ?_)
  | (refine lCc rfl _ rfl rfl (ocA rfl) (by assumption) rfl ?_)
  | (refine wpList_load_bkg (by rfl) _ rfl rfl nodeT HN rfl ?_))
 refine (HEN.out _ HB HM).mono ?_
 rintro e w2 ⟨rfl, hb⟩
 replace HB := HB.trans (hb.mono HB.size)
 replace HR := HR.later hb
 replace HN := HN.later hb
 replace HL := HL.later hb
 replace HM := HM.later hb
 clear hb l0
 obtain ⟨W3, y9, hW3, hy9, B9, H9, Z9⟩ := bk_new w2 #[.int .u64 p.g.base, .int .u64 p.g.bt, .string p.g.snap, .slice d.e.a p.g.L.length d.e.c] 28
 have B9' : Below w2.heap.size w2 W3 := hy9 ▸ B9
 have HL0 := HL
 have h9n := hI_ (show w.heap.size < y9 ∧ y < y9 ∧ yl < y9 from ⟨hy9 ▸ HN.lt, hy9 ▸ HR.lt, hy9 ▸ HL.lt⟩)
 replace HN := HN.later B9'
 replace HR := HR.later B9'
 replace HL := HL.later B9'
 replace HM := HM.later B9'
 replace HB := HB.trans (B9'.mono HB.size)
 clear B9 B9'
 go_wp2_with (first
  | (refine lBk rfl _ rfl rfl logT (by assumption) rfl ?_)
  | (refine sCc (v := .slice d.e.a k d.e.c) rfl _ _ rfl rfl rfl (by exact ocE) H9 rfl rfl rfl ?_; intro w' hk hg; replace HN := HN.grown hg (by have := h9n.out; omega); replace HR := HR.grown hg (by have := h9n.out; omega); replace HL := HL.grown hg (by have := h9n.out; omega); replace HM := HM.grown hg (by have := h9n.out; omega) H9.bx.ty boxLog; replace HB := bGr HB hg HB.size (by have := h9n.out; omega); replace H9 := hk; clear hk hg)
  | (refine lCc rfl _ rfl rfl (ocA rfl) (by assumption) rfl ?_)
  | (refine lBk rfl _ rfl rfl logT H9 rfl ?_)
  | (refine lSb rfl _ rfl rfl [.slice d.v.a p.c.V.length d.v.c, .slice d.l.a p.c.L.length d.l.c] confT HN rfl rfl ?_))
 refine (HCA.out _ HM).mono ?_
 rintro e w4 ⟨s1, s2, rfl, hV, hU, _, hb⟩
 replace HB := HB.trans (hb.mono HB.size)
 replace HR := HR.later hb
 replace HN := HN.later hb
 replace HL := HL.later hb
 replace HM := HM.later hb
 clear hb
 go_wp2_with fail
 refine (HSN.out _ _ _ hV hU (HTZ.out _ HB)).mono ?_
 rintro e w5 ⟨rfl, hb⟩
 replace HB := HB.trans (hb.mono HB.size)
 replace HR := HR.later hb
 replace HN := HN.later hb
 replace HL := HL.later hb
 replace HM := HM.later hb
 clear hb hV hU
 go_wp2_with (first
  | (refine sBk rfl _ _ rfl rfl (M := znA.toList) rfl nodeT HR rfl rfl rfl ?_; intro w' hk hg; replace HB := bGr HB hg HB.size (by have := hyn.out; omega); replace HR := hk; clear hk hg))
 refine bodyPost_ret (v := .tuple #[.agg znA, .int .i64 (4)]) (by rw [rBt Tryz.results14 _ rfl nodeT HR rfl]; rfl) rfl ?_
 exact HX.out _ HB
theorem pCompact8_5 (p : Pn) (d : Ad) (hBd : Bd p) (i : Nat) (hi : i < 18446744073709551616) (app : ByteArray) (ha : app.size ≤ 140737488351232) (K : Nat) (w : World) (hK : K ≤ w.heap.size) (hT : Tz w) (hM : NdM K w p d) (h1 : ¬ p.commit < i) (h2 : ¬ i ≤ p.g.base) (h3 : ¬ p.endI < i) (h4 : ¬ 4096 < (cmpS p i app).size) :
 Calls Tryz.prog 14 #[ndV p d, .int .u64 i, .string app] w (CxP K w (cmpX p i app) (cmpP p i app)) := by
 obtain ⟨W, hW, B0, N0, Z0⟩ := nk_new w p d
 obtain ⟨W1, y, hW1, hy, B1, HR, Z1⟩ := bk_new W znA 34
 have HN := N0.later (hy ▸ B1)
 have HB := B0.trans (B1.mono (by have := Z0.out; omega))
 have hyn := hI_ (show w.heap.size < y by have := Z0.out; omega)
 clear B0 N0 B1
 unfold ndA at hW
 unfold znA at hW1
 obtain ⟨W2, yl, hW2, hyl, B2, HL, Z2⟩ := bk_new W1 #[.int .u64 p.g.base, .int .u64 p.g.bt, .string p.g.snap, .slice d.e.a p.g.L.length d.e.c] 28
 have B2' : Below W1.heap.size W1 W2 := hyl ▸ B2
 have HN1 := HN
 replace HN := HN.later B2'
 replace HR := HR.later B2'
 replace HB := HB.trans (B2'.mono HB.size)
 have hyl2 := hI_ (show y < yl by have := Z1.out; omega)
 have HM := hM.later HB
 clear hM B2 B2'
 have hbs := hBd.base
 have hes := hBd.ents
 have hcm := hBd.commit
 have HEN := hI_ (show ∀ w1, Below w.heap.size w w1 → NdM K w1 p d → Calls Tryz.prog 31 #[ndV p d] w1 fun e w' => e = .returned (.int .u64 (p.endI : Nat)) ∧ Below w1.heap.size w1 w' from fun w1 _ h => pEndW_any p d hBd.base hBd.ents K w1 h)
 obtain ⟨k, hk⟩ : ∃ k, i - p.g.base = k := ⟨_, rfl⟩
 have hkl : k ≤ p.g.L.length ∧ 0 < k := by unfold Pn.endI at h3; omega
 obtain ⟨T, hTk⟩ : ∃ T, p.g.L.take k = T := ⟨_, rfl⟩
 have hTl : T.length = k := by rw [← hTk, List.length_take]; omega
 have HTE := hI_ (show ∀ w1, NdM K w1 p d → Ents w1 d.e.a T from fun w1 h j x hx => by rw [← hTk] at hx; exact h.e j x (by have hj := (List.getElem?_eq_some_iff.1 hx).1; rw [List.length_take] at hj; rw [List.getElem?_take_of_lt (by omega)] at hx; exact hx))
 have HTD := hI_ (show ∀ x ∈ T, x.d.size ≤ 140737488351232 from fun x hx => by rw [← hTk] at hx; exact (hBd.data x (List.mem_of_mem_take hx)).2)
 obtain ⟨c9, hc9⟩ : ∃ c9, confA p.c { p.g with L := T } = c9 := ⟨_, rfl⟩
 have hm9 : mayB c9.V c9.L = true := by rw [← hc9]; exact confA_may _ hBd.may
 have HCA := hI_ (show ∀ w1, NdM K w1 p d → Calls Tryz.prog 49 #[.agg #[.slice d.v.a p.c.V.length d.v.c, .slice d.l.a p.c.L.length d.l.c], .agg #[.int .u64 p.g.base, .int .u64 p.g.bt, .string p.g.snap, .slice d.e.a k d.e.c]] w1 (CfQ w1 p.c d.v d.l c9) from fun w1 h => by
  have h4 := pConfAt_any p.c d.v d.l d.e { p.g with L := T } (by show T.length ≤ _; omega) HTD.out hBd.snap w1 h.v h.l (HTE.out w1 h)
  rw [hc9] at h4
  simp only [hTl] at h4
  exact h4)
 obtain ⟨S, hS⟩ : ∃ S, snapD c9 app = S := ⟨_, rfl⟩
 have hcs : cmpS p i app = S := by unfold cmpS; rw [hk, hTk, hc9, hS]
 have HSN := hI_ (show ∀ w1 s1 s2, Us w1 (Sa.a s1) c9.V → Us w1 (Sa.a s2) c9.L → Tz w1 → Calls Tryz.prog 48 #[.agg #[.slice s1.a c9.V.length s1.c, .slice s2.a c9.L.length s2.c], .string app] w1 fun e w' => e = .returned (.string S) ∧ Below w1.heap.size w1 w' from fun w1 s1 s2 h h' h'' => by
  have h4 := pSnapshot_any c9 s1 s2 hm9 app ha w1 h h' h''
  rw [hS] at h4; exact h4)
 have wk : IntKind.u64.wrap ((i : Int) - (p.g.base : Int)) = (k : Int) := by rw [IntWalk.u64_in _ (by omega)]; omega
 have wk2 : IntKind.i64.wrap (k : Int) = (k : Int) := by rw [IntKind.wrap_i64]; omega
 have hec := HM.ec
 have hem := HM.em
 have wk3 : (0 : Int) ≤ (k : Int) := by omega
 have wk4 : (k : Int) ≤ (d.e.c : Int) := by omega
 have wk5 : k ≤ d.e.c := by omega
 have HTZ := hI_ (show ∀ w1, Below w.heap.size w w1 → Tz w1 from fun w1 h => hT.below (h.mono hT.n))
 clear hk hTk hTl hc9 hS hm9
 have e0 : cmpX p i app = 0 := by unfold cmpX; rw [if_neg (by omega), if_neg h4]
 rw [e0]
 rw [hcs] at h4
 have g4 : ¬ (4096 : Int) < (S.size : Int) := by omega
 obtain ⟨G, hG⟩ : ∃ G, insG p.g i (tAt p.g.base p.g.bt p.g.L i).1 S = G := ⟨_, rfl⟩
 have ht2 : (tAt p.g.base p.g.bt p.g.L i).2 = true := by
  unfold Pn.endI at h3
  obtain ⟨x, hx⟩ : ∃ x, p.g.L[i - p.g.base - 1]? = some x := ⟨_, List.getElem?_eq_getElem (by omega)⟩
  have h5 := tAtZ_in (base := p.g.base) (bt := p.g.bt) hx
  rw [show p.g.base + (i - p.g.base - 1) + 1 = i by omega] at h5
  rw [h5]
 have HF := hI_ (CxP.yes (K := K) (w := w) (x := 0) (q := cmpP p i app) rfl (P := { p with g := G }) (by unfold cmpP; rw [hcs, hG]))
 have HCP := hI_ (show ∀ w1, NdM K w1 p d → Calls Tryz.prog 50 #[.agg #[.int .u64 p.g.base, .int .u64 p.g.bt, .string p.g.snap, .slice d.e.a p.g.L.length d.e.c], .int .u64 i, .string S] w1 (CfL w1 d.e.a p.g.L G) from fun w1 h => by
  have h5 := pCompactF_any p.g.base p.g.bt p.g.L.length d.e.c i p.g.snap S d.e.a p.g.L rfl (by omega) h.ec h.em hbs hi (by omega) w1 h.e (by omega) ht2
  rw [hG] at h5; exact h5)
 clear e0 hcs hG ht2
 have g1 : decide ((p.commit : Int) < (i : Int)) = false := by simp; omega
 have g2 : decide ((i : Int) ≤ (p.g.base : Int)) = false := by simp; omega
 have l0 := HL.bx.c 0 _ rfl
 have g3 : decide ((p.endI : Int) < (i : Int)) = false := by simp; omega
 have g3' : ¬ (p.endI : Int) < (i : Int) := by omega
 go_enter Tryz.func14, Tryz.ntmps14
 go_wp2_with (first
  | (refine lSb rfl _ rfl rfl [.int .u64 p.g.base, .int .u64 p.g.bt, .string p.g.snap, .slice d.e.a p.g.L.length d.e.c] logT (by assumption) rfl rfl ?_)
  | (refine lCc rfl _ rfl rfl (ocA rfl) (by assumption) rfl ?_)
  | (refine wpList_load_bkg (by rfl) _ rfl rfl nodeT HN rfl ?_))
 refine (HEN.out _ HB HM).mono ?_
 rintro e w2 ⟨rfl, hb⟩
 replace HB := HB.trans (hb.mono HB.size)
 replace HR := HR.later hb
 replace HN := HN.later hb
 replace HL := HL.later hb
 replace HM := HM.later hb
 clear hb l0
 obtain ⟨W3, y9, hW3, hy9, B9, H9, Z9⟩ := bk_new w2 #[.int .u64 p.g.base, .int .u64 p.g.bt, .string p.g.snap, .slice d.e.a p.g.L.length d.e.c] 28
 have B9' : Below w2.heap.size w2 W3 := hy9 ▸ B9
 have HL0 := HL
 have h9n := hI_ (show w.heap.size < y9 ∧ y < y9 ∧ yl < y9 from ⟨hy9 ▸ HN.lt, hy9 ▸ HR.lt, hy9 ▸ HL.lt⟩)
 replace HN := HN.later B9'
 replace HR := HR.later B9'
 replace HL := HL.later B9'
 replace HM := HM.later B9'
 replace HB := HB.trans (B9'.mono HB.size)
 clear B9 B9'
 go_wp2_with (first
  | (refine lBk rfl _ rfl rfl logT (by assumption) rfl ?_)
  | (refine sCc (v := .slice d.e.a k d.e.c) rfl _ _ rfl rfl rfl (by exact ocE) H9 rfl rfl rfl ?_; intro w' hk hg; replace HN := HN.grown hg (by have := h9n.out; omega); replace HR := HR.grown hg (by have := h9n.out; omega); replace HL := HL.grown hg (by have := h9n.out; omega); replace HM := HM.grown hg (by have := h9n.out; omega) H9.bx.ty boxLog; replace HB := bGr HB hg HB.size (by have := h9n.out; omega); replace H9 := hk; clear hk hg)
  | (refine lCc rfl _ rfl rfl (ocA rfl) (by assumption) rfl ?_)
  | (refine lBk rfl _ rfl rfl logT H9 rfl ?_)
  | (refine lSb rfl _ rfl rfl [.slice d.v.a p.c.V.length d.v.c, .slice d.l.a p.c.L.length d.l.c] confT HN rfl rfl ?_))
 refine (HCA.out _ HM).mono ?_
 rintro e w4 ⟨s1, s2, rfl, hV, hU, _, hb⟩
 replace HB := HB.trans (hb.mono HB.size)
 replace HR := HR.later hb
 replace HN := HN.later hb
 replace HL := HL.later hb
 replace HM := HM.later hb
 clear hb
 go_wp2_with fail
 refine (HSN.out _ _ _ hV hU (HTZ.out _ HB)).mono ?_
 rintro e w5 ⟨rfl, hb⟩
 replace HB := HB.trans (hb.mono HB.size)
 replace HR := HR.later hb
 replace HN := HN.later hb
 replace HL := HL.later hb
 replace HM := HM.later hb
 clear hb hV hU
 go_wp2_with (first
  | (refine lBk rfl _ rfl rfl logT (by assumption) rfl ?_))
 have HYZ := hI_ (show w.heap.size ≤ w5.heap.size ∧ y < w5.heap.size from ⟨HB.size, HR.lt⟩)
 refine (HCP.out _ HM).mono ?_
 rintro e w6 ⟨a', c', rfl, k1, k2, k3, hb⟩
 replace HB := HB.trans (hb.mono HB.size)
 replace HR := HR.later hb
 replace HN := HN.later hb
 have HM2 := HM.fr hb k1 k2 k3
 replace HM := HM2
 clear hb k3 HL HM2
 go_wp2_with (first
  | (refine wpList_store_sub rfl _ _ rfl rfl rfl logT HN rfl rfl rfl (L' := ndL { p with g := G } { d with e := ⟨a', c'⟩ }) rfl ?_; intro w' hk hg; replace HR := HR.grown hg (by have := hyn.out; omega); replace HM := HM.grown hg hK HN.bx.ty bNd; replace HB := bGr HB hg HB.size (Nat.le_refl _); replace HN := hk; clear hk hg)
  | (refine lBk rfl _ rfl rfl nodeT HN rfl ?_)
  | (refine sBk rfl _ _ rfl rfl rfl nodeT HR rfl rfl rfl ?_; intro w' hk hg; replace HM := HM.grown hg (by have := hyn.out; omega) HR.bx.ty bNd; replace HB := bGr HB hg HB.size (by have := hyn.out; omega); replace HR := hk; clear hk hg))
 refine bodyPost_ret (v := .tuple #[ndV { p with g := G } { d with e := ⟨a', c'⟩ }, .int .i64 0]) (by rw [rBt Tryz.results14 _ rfl nodeT HR rfl]; rfl) rfl ?_
 exact HF.out _ _ HM HB
theorem pCompact8_any (p : Pn) (d : Ad) (hBd : Bd p) (i : Nat) (hi : i < 18446744073709551616) (app : ByteArray) (ha : app.size ≤ 140737488351232) (K : Nat) (w : World) (hK : K ≤ w.heap.size) (hT : Tz w) (hM : NdM K w p d) :
 Calls Tryz.prog 14 #[ndV p d, .int .u64 i, .string app] w (CxP K w (cmpX p i app) (cmpP p i app)) := by
 by_cases h1 : p.commit < i
 · exact pCompact8_1 p d hBd i hi app ha K w hK hT hM h1
 by_cases h2 : i ≤ p.g.base
 · exact pCompact8_2 p d hBd i hi app ha K w hK hT hM h1 h2
 by_cases h3 : p.endI < i
 · exact pCompact8_3 p d hBd i hi app ha K w hK hT hM h1 h2 h3
 by_cases h4 : 4096 < (cmpS p i app).size
 · exact pCompact8_4 p d hBd i hi app ha K w hK hT hM h1 h2 h3 h4
 · exact pCompact8_5 p d hBd i hi app ha K w hK hT hM h1 h2 h3 h4
end Go.Proofs.YtdcpiaoadbbdoaaGreatDoor
