/- A node stands. -/
import Derived.Test.YtdcpiaoadbbdoaaGreatBulk
import Derived.Test.YtdcpiaoadbbdoaaGreatQdm
set_option maxRecDepth 100000
set_option maxHeartbeats 16000000
namespace Go.Proofs.YtdcpiaoadbbdoaaGreat
open Go.RowKit

theorem pStand_any (hRM : RmOk) (p : Pn) (d : Ad) (hBd : Bd p) (K : Nat) (w : World) (hK : K ≤ w.heap.size) (hM : NdM K w p d) :
 Calls Tryz.prog 97 #[ndV p d] w (NmP K w (standP p)) := by
 obtain ⟨W, hW, B0, N0, Z0⟩ := nk_new w p d
 obtain ⟨W1, y, hW1, hy, B1, HR, Z1⟩ := bk_new W znA 34
 have HN := N0.later (hy ▸ B1)
 have HB := B0.trans (B1.mono (by have := Z0.out; omega))
 have hyn := hI_ (show w.heap.size < y by have := Z0.out; omega)
 clear B0 N0 B1
 unfold ndA at hW
 unfold znA at hW1
 have HM := hM.later HB
 obtain ⟨T1, hT1⟩ : ∃ T1, (p.term + 1) % 18446744073709551616 = T1 := ⟨_, rfl⟩
 have wT : IntKind.u64.wrap ((p.term : Int) + 1) = (T1 : Int) := by rw [IntKind.wrap_u64]; omega
 obtain ⟨P, hP⟩ : ∃ P : Pn, P = standQ p := ⟨_, rfl⟩
 have hbd : Bd P := by rw [hP]; exact bd_stand hBd
 have HTT := hI_ hT1
 have HTP := hI_ (show P.term = T1 by rw [hP]; exact hT1)
 have HPE := hI_ hP
 have HSP := hI_ (show standP p = ((countP P).1, (rivalsL P.conf P.id).map (reqG P 3 T1) ++ (countP P).2) by rw [standP_eq, hP, ← hT1]; rfl)
 have HCT := hI_ (show ∀ d K w, K ≤ w.heap.size → NdM K w P d → Calls Tryz.prog 69 #[ndV P d] w (NmP K w (countP P)) from fun d K w hk hm => pCountG_any hRM P d hbd K w hk hm (fun h => by rw [hP] at h; cases h))
 have HLN := hI_ (countP_len hbd)
 have HRL := hI_ (riv_len (id := P.id) (conf_may hbd.may))
 obtain ⟨P3, M3, h3⟩ : ∃ P3 M3, countP P = (P3, M3) := ⟨_, _, rfl⟩
 rw [h3] at HSP HCT HLN
 clear hM hP hT1 h3
 go_enter Tryz.func97, Tryz.ntmps97
 go_wp2_with (first
  | (refine lCc rfl _ rfl rfl (ocA rfl) (by assumption) rfl ?_)
  | (refine sCc (v := .int .u64 T1) rfl _ _ rfl rfl rfl ocU HN rfl rfl rfl ?_; intro w' hk hg; replace HR := HR.grown hg (by have := hyn.out; omega); replace HM := HM.grown hg (hK) HN.bx.ty bNd; replace HB := bGr HB hg HB.size (Nat.le_refl _); replace HN := hk; clear hk hg)
  | (refine sCc (v := .int .u64 p.id) rfl _ _ rfl rfl rfl ocU HN rfl rfl rfl ?_; intro w' hk hg; replace HR := HR.grown hg (by have := hyn.out; omega); replace HM := HM.grown hg (hK) HN.bx.ty bNd; replace HB := bGr HB hg HB.size (Nat.le_refl _); replace HN := hk; clear hk hg)
  | (refine sCc (v := .int .i64 2) rfl _ _ rfl rfl rfl ocI HN rfl rfl rfl ?_; intro w' hk hg; replace HR := HR.grown hg (by have := hyn.out; omega); replace HM := HM.grown hg (hK) HN.bx.ty bNd; replace HB := bGr HB hg HB.size (Nat.le_refl _); replace HN := hk; clear hk hg)
  | (refine sCc (v := .int .u64 0) rfl _ _ rfl rfl rfl ocU HN rfl rfl rfl ?_; intro w' hk hg; replace HR := HR.grown hg (by have := hyn.out; omega); replace HM := HM.grown hg (hK) HN.bx.ty bNd; replace HB := bGr HB hg HB.size (Nat.le_refl _); replace HN := hk; clear hk hg; obtain ⟨wv, z, hwv, hz, BV, HV, ZV⟩ := bk_new w' #[.int .u64 p.id, .bool true] 107; (have BV' : Below w'.heap.size w' wv := hz ▸ BV); (have HVS : Vs wv (some ⟨z, 0, none⟩) [⟨p.id, true⟩] := by rw [← hwv, ← hz]; exact rw_one w' rfl (⟨p.id, true⟩ : Vo) (os := #[.int .u64 p.id, .bool true]) rfl 107); (have HVT : Ty K wv (some ⟨z, 0, none⟩) 1 107 := fun _ q e => by cases e; exact ⟨HV.lt, .inr HV.bx.ty⟩); have HNo := HN; replace HM := HM.vos BV' (c := 1) HVS HVT; replace HN := HN.later BV'; replace HR := HR.later BV'; replace HB := HB.trans (BV'.mono HB.size); clear BV BV' HVS HVT HV)
  | (refine sCc (v := .slice (some ⟨z, 0, none⟩) 1 1) rfl _ _ rfl rfl rfl ocV HN rfl rfl rfl ?_; intro w' hk hg; replace HR := HR.grown hg (by have := hyn.out; omega); replace HM := HM.grown hg (hK) HN.bx.ty bNd; replace HB := bGr HB hg HB.size (Nat.le_refl _); replace HN := hk; clear hk hg; obtain ⟨D, hD⟩ : ∃ D : Ad, D = { d with o := ⟨some ⟨z, 0, none⟩, 1⟩ } := ⟨_, rfl⟩; (replace HN : Bk w' w.heap.size 34 (ndL P D) := by rw [HPE.out, hD, show standQ p = { p with term := T1, vote := p.id, role := 2, lead := 0, voices := [⟨p.id, true⟩] } by rw [← HTT.out]; rfl]; exact HN); (replace HM : NdM K w' P D := by rw [HPE.out, hD]; exact HM.same rfl rfl rfl rfl rfl); clear hD))
 refine wp_region_held_drew (S := fun w' => Bk w' w.heap.size 34 (ndL P D) ∧ Bk w' y 34 znA.toList ∧ NdM K w' P D ∧ Below w.heap.size w w') (by kernel_rfl) (⟨HN.later ((Below.refl _ _).drew), HR.later ((Below.refl _ _).drew), HM.later ((Below.refl _ _).drew), HB.drew⟩) (fun HS => ?_)
 refine tkh (i := 0) (v := (.agg (ndL P D).toArray)) rfl ⟨by rfl, fun _ hSw => eLb _ rfl rfl nodeT hSw.1 rfl⟩ HS ?_
 try simp only [ly, Act.put]
 refine tkp (i := 1) rfl HS ?_
 try simp only [ly, Act.put]
 refine tkp (i := 2) rfl HS ?_
 refine tkh (i := 3) (v := (.int .u64 T1)) rfl ⟨by rfl, fun _ hSw => exec_load_c _ rfl rfl ocU hSw.1 (by rw [← HTP.out]; rfl)⟩ HS ?_
 refine tkh (i := 4) (v := (.agg (ndL P D).toArray)) rfl ⟨by rfl, fun _ hSw => eLb _ rfl rfl nodeT hSw.1 rfl⟩ HS ?_
 try simp only [ly, Act.put]
 refine onh (r := 5) (by kernel_rfl) rfl (fun KK hK => ?_)
 go_simp
 refine (pRivals_any P D hbd K _ HS.2.2.1).mono ?_
 rintro e w2 ⟨ar, cr, rfl, hUr, _, hb⟩
 have HUr := hI_ hUr
 clear hUr
 go_wp2_with fail
 refine hK.out _ _ ⟨HS.1.later hb, HS.2.1.later hb, HS.2.2.1.later hb, HS.2.2.2.trans (hb.mono HS.2.2.2.size)⟩ (fun HS => ?_)
 clear hK
 try simp only [ly, Act.put]
 refine onh (r := 6) (by kernel_rfl) rfl (fun KK hK => ?_)
 go_simp
 refine (pRequest_any P D hbd 3 T1 K _ cr ar (rivalsL P.conf P.id) rfl (Nat.le_trans HRL.out (by omega)) _ HS.2.2.1 HUr.out).mono ?_
 rintro e w4 ⟨v1, O1, rfl, hC1, hO1, hb⟩
 have HO1 := hI_ hO1
 have HC1 := hC1.mono (B' := y + 1) HS.2.1.lt
 clear hC1 hO1
 go_wp2_with fail
 refine hK.out _ _ ⟨HS.1.later hb, HS.2.1.later hb, HS.2.2.1.later hb, HS.2.2.2.trans (hb.mono HS.2.2.2.size)⟩ (fun HS => ?_)
 clear hK
 try simp only [ly, Act.put]
 refine tkp (i := 7) rfl HS ?_
 try simp only [ly, Act.put]
 refine wpAnyH_done (by kernel_rfl) ?_ _
 replace HN := HS.1
 replace HR := HS.2.1
 replace HM := HS.2.2.1
 replace HB := HS.2.2.2
 clear HS
 have HSZ1 := hI_ HB.size
 go_wp2_with (first
  | (refine lBk rfl _ rfl rfl nodeT (by assumption) rfl ?_))
 refine (HCT.out _ _ _ (Nat.le_trans hK HB.size) HM).mono ?_
 rintro e w6 ⟨D3, v2, O2, rfl, hm3, hC2, hO2, hb⟩
 simp only at hm3 hO2
 have HO2 := hI_ hO2
 have HC2 := hC2.mono HSZ1.out
 replace HC1 := HC1.later hb
 replace HB := HB.trans (hb.mono HB.size)
 replace HR := HR.later hb
 replace HN := HN.later hb
 replace HM := hm3
 clear hm3 hC2 hO2 hb
 go_wp2_with (first
  | (refine sBk rfl _ _ rfl rfl rfl nodeT HN rfl rfl rfl ?_; intro w' hk hg; replace HR := HR.grown hg (by have := hyn.out; omega); replace HC1 := HC1.box hg HN.bx.ty boxNm; replace HC2 := HC2.box hg HN.bx.ty boxNm; replace HM := HM.grown hg (hK) HN.bx.ty bNd; replace HB := bGr HB hg HB.size (Nat.le_refl _); replace HN := hk; clear hk hg))
 replace HR := HR.later ((Below.refl _ _).drew)
 replace HC1 := HC1.later ((Below.refl _ _).drew)
 replace HC2 := HC2.later ((Below.refl _ _).drew)
 obtain ⟨a2, c2, rfl, hM2, _⟩ := HC2.form
 have HM2 := hI_ hM2
 have HLL := hI_ (show O1.length + O2.length ≤ 1000000 by
  have e1 := congrArg List.length HO1.out
  have e2 := congrArg List.length HO2.out
  simp only [List.length_map] at e1 e2
  have h1 : M3.length ≤ 17 := HLN.out
  have h2 := HRL.out
  omega)
 clear hM2
 refine wp_region_held_drew (S := fun w' => Bk w' w.heap.size 34 (ndL P3 D3) ∧ NdM K w' P3 D3 ∧ Below w.heap.size w w') (by kernel_rfl) (⟨HN.later ((Below.refl _ _).drew), HM.later ((Below.refl _ _).drew), HB.drew⟩) (fun HS => ?_)
 refine tkh (i := 0) (v := (.agg (ndL P3 D3).toArray)) rfl ⟨by rfl, fun _ hSw => eLb _ rfl rfl nodeT hSw.1 rfl⟩ HS ?_
 try simp only [ly, Act.put]
 refine tkp (i := 1) rfl HS ?_
 try simp only [ly, Act.put]
 refine tkp (i := 2) rfl HS ?_
 try simp only [ly, Act.put]
 refine onh (r := 3) (by kernel_rfl) rfl (fun KK hK => ?_)
 refine step_appE (by rfl) _ _ _ (by rfl) _ _ (by rfl) (by rfl) _ (app_mgG (y + 1) _ _ v1 O1 HC1 a2 O2.length c2 O2 rfl HM2.out HC2.2 HLL.out HR.lt) ?_
 rintro v4 w8 ⟨HC4, hb, hgr⟩
 replace HC4 := HC4.mono (show w.heap.size ≤ y + 1 by have := hyn.out; omega)
 replace HR := HR.rowed (Nat.lt_succ_self _) hb
 refine hK.out _ _ ⟨HS.1.rowed (by have := hyn.out; omega) hb, HS.2.1.rowed (by have := hyn.out; omega) hgr, HS.2.2.trans (hb.mono (by have := hyn.out; omega))⟩ (fun HS => ?_)
 clear hK
 try simp only [ly, Act.put]
 refine onh (r := 4) (by kernel_rfl) rfl (fun KK hK => ?_)
 rw [if_pos (by rfl)]
 refine wSb _ _ rfl rfl (M := ndL P3 D3) rfl nodeT HR rfl rfl rfl ?_
 intro w' hk hg
 replace HC4 := HC4.box hg HR.bx.ty boxNm
 have HM1 := HS.2.1.grown hg (by have := hyn.out; omega) HR.bx.ty bNd
 have HN1 := HS.1.grown hg (by have := hyn.out; omega)
 have HB1 := bGr HS.2.2 hg HS.2.2.size (by have := hyn.out; omega)
 replace HR := hk
 clear hk hg
 refine hK.out _ _ ⟨HN1, HM1, HB1⟩ (fun HS => ?_)
 clear hK
 try simp only [ly, Act.put]
 refine tkp (i := 5) rfl HS ?_
 try simp only [ly, Act.put]
 refine wpAnyH_done (by kernel_rfl) ?_ _
 have HF := hI_ (show ∀ w1, Below w.heap.size w w1 → NdM K w1 P3 D3 → CqG w.heap.size w1 v4 (O1 ++ O2) → NmP K w (standP p) (.returned (.tuple #[ndV P3 D3, v4])) w1 from fun w1 hb hm hc => by rw [HSP.out]; exact ⟨D3, v4, O1 ++ O2, rfl, hm, hc, by rw [List.map_append, HO1.out, HO2.out], hb⟩)
 go_wp2_with fail
 refine bodyPost_ret (v := .tuple #[ndV P3 D3, v4]) (by rw [rBt Tryz.results97 _ rfl nodeT HR rfl]; rfl) rfl ?_
 exact HF.out _ HS.2.2 HS.2.1 HC4

theorem pAsk_any (hRM : RmOk) (p : Pn) (d : Ad) (hBd : Bd p) (K : Nat) (w : World) (hK : K ≤ w.heap.size) (hM : NdM K w p d) :
 Calls Tryz.prog 35 #[ndV p d] w (NmP K w (askP p)) := by
 obtain ⟨W, hW, B0, N0, Z0⟩ := nk_new w p d
 obtain ⟨W1, y, hW1, hy, B1, HR, Z1⟩ := bk_new W znA 34
 have HN := N0.later (hy ▸ B1)
 have HB := B0.trans (B1.mono (by have := Z0.out; omega))
 have hyn := hI_ (show w.heap.size < y by have := Z0.out; omega)
 clear B0 N0 B1
 unfold ndA at hW
 unfold znA at hW1
 have HM := hM.later HB
 obtain ⟨T1, hT1⟩ : ∃ T1, (p.term + 1) % 18446744073709551616 = T1 := ⟨_, rfl⟩
 have wT : IntKind.u64.wrap ((p.term : Int) + 1) = (T1 : Int) := by rw [IntKind.wrap_u64]; omega
 obtain ⟨P, hP⟩ : ∃ P : Pn, P = askQ p := ⟨_, rfl⟩
 have hbd : Bd P := by rw [hP]; exact bd_ask hBd
 have HTT := hI_ hT1
 have HTP := hI_ (show P.term = p.term by rw [hP]; rfl)
 have HPE := hI_ hP
 have HSP := hI_ (show askP p = ((countP P).1, (rivalsL P.conf P.id).map (reqG P 1 T1) ++ (countP P).2) by rw [askP_eq, hP, ← hT1]; rfl)
 have HCT := hI_ (show ∀ d K w, K ≤ w.heap.size → NdM K w P d → Calls Tryz.prog 69 #[ndV P d] w (NmP K w (countP P)) from fun d K w hk hm => pCountG_any hRM P d hbd K w hk hm (fun _ w1 hk1 hm1 => pStand_any hRM P d hbd K w1 hk1 hm1))
 have HLN := hI_ (countP_len hbd)
 have HRL := hI_ (riv_len (id := P.id) (conf_may hbd.may))
 obtain ⟨P3, M3, h3⟩ : ∃ P3 M3, countP P = (P3, M3) := ⟨_, _, rfl⟩
 rw [h3] at HSP HCT HLN
 clear hM hP hT1 h3
 go_enter Tryz.func35, Tryz.ntmps35
 go_wp2_with (first
  | (refine lCc rfl _ rfl rfl (ocA rfl) (by assumption) rfl ?_)
  | (refine sCc (v := .int .i64 1) rfl _ _ rfl rfl rfl ocI HN rfl rfl rfl ?_; intro w' hk hg; replace HR := HR.grown hg (by have := hyn.out; omega); replace HM := HM.grown hg (hK) HN.bx.ty bNd; replace HB := bGr HB hg HB.size (Nat.le_refl _); replace HN := hk; clear hk hg)
  | (refine sCc (v := .int .u64 0) rfl _ _ rfl rfl rfl ocU HN rfl rfl rfl ?_; intro w' hk hg; replace HR := HR.grown hg (by have := hyn.out; omega); replace HM := HM.grown hg (hK) HN.bx.ty bNd; replace HB := bGr HB hg HB.size (Nat.le_refl _); replace HN := hk; clear hk hg; obtain ⟨wv, z, hwv, hz, BV, HV, ZV⟩ := bk_new w' #[.int .u64 p.id, .bool true] 107; (have BV' : Below w'.heap.size w' wv := hz ▸ BV); (have HVS : Vs wv (some ⟨z, 0, none⟩) [⟨p.id, true⟩] := by rw [← hwv, ← hz]; exact rw_one w' rfl (⟨p.id, true⟩ : Vo) (os := #[.int .u64 p.id, .bool true]) rfl 107); (have HVT : Ty K wv (some ⟨z, 0, none⟩) 1 107 := fun _ q e => by cases e; exact ⟨HV.lt, .inr HV.bx.ty⟩); have HNo := HN; replace HM := HM.vos BV' (c := 1) HVS HVT; replace HN := HN.later BV'; replace HR := HR.later BV'; replace HB := HB.trans (BV'.mono HB.size); clear BV BV' HVS HVT HV)
  | (refine sCc (v := .slice (some ⟨z, 0, none⟩) 1 1) rfl _ _ rfl rfl rfl ocV HN rfl rfl rfl ?_; intro w' hk hg; replace HR := HR.grown hg (by have := hyn.out; omega); replace HM := HM.grown hg (hK) HN.bx.ty bNd; replace HB := bGr HB hg HB.size (Nat.le_refl _); replace HN := hk; clear hk hg; obtain ⟨D, hD⟩ : ∃ D : Ad, D = { d with o := ⟨some ⟨z, 0, none⟩, 1⟩ } := ⟨_, rfl⟩; (replace HN : Bk w' w.heap.size 34 (ndL P D) := by rw [HPE.out, hD, show askQ p = { p with role := 1, lead := 0, voices := [⟨p.id, true⟩] } from rfl]; exact HN); (replace HM : NdM K w' P D := by rw [HPE.out, hD]; exact HM.same rfl rfl rfl rfl rfl); clear hD))
 refine wp_region_held_drew (S := fun w' => Bk w' w.heap.size 34 (ndL P D) ∧ Bk w' y 34 znA.toList ∧ NdM K w' P D ∧ Below w.heap.size w w') (by kernel_rfl) (⟨HN.later ((Below.refl _ _).drew), HR.later ((Below.refl _ _).drew), HM.later ((Below.refl _ _).drew), HB.drew⟩) (fun HS => ?_)
 refine tkh (i := 0) (v := (.agg (ndL P D).toArray)) rfl ⟨by rfl, fun _ hSw => eLb _ rfl rfl nodeT hSw.1 rfl⟩ HS ?_
 try simp only [ly, Act.put]
 refine tkp (i := 1) rfl HS ?_
 try simp only [ly, Act.put]
 refine tkp (i := 2) rfl HS ?_
 refine tkh (i := 3) (v := (.int .u64 p.term)) rfl ⟨by rfl, fun _ hSw => exec_load_c _ rfl rfl ocU hSw.1 (by rw [← HTP.out]; rfl)⟩ HS ?_
 refine tkh (i := 4) (v := (.int .u64 T1)) rfl ⟨by rfl, ?h4⟩ HS ?_
 case h4 => (intro _ hSw; go_simp; (try with_reducible rfl))
 refine tkh (i := 5) (v := (.agg (ndL P D).toArray)) rfl ⟨by rfl, fun _ hSw => eLb _ rfl rfl nodeT hSw.1 rfl⟩ HS ?_
 try simp only [ly, Act.put]
 refine onh (r := 6) (by kernel_rfl) rfl (fun KK hK => ?_)
 go_simp
 refine (pRivals_any P D hbd K _ HS.2.2.1).mono ?_
 rintro e w2 ⟨ar, cr, rfl, hUr, _, hb⟩
 have HUr := hI_ hUr
 clear hUr
 go_wp2_with fail
 refine hK.out _ _ ⟨HS.1.later hb, HS.2.1.later hb, HS.2.2.1.later hb, HS.2.2.2.trans (hb.mono HS.2.2.2.size)⟩ (fun HS => ?_)
 clear hK
 try simp only [ly, Act.put]
 refine onh (r := 7) (by kernel_rfl) rfl (fun KK hK => ?_)
 go_simp
 refine (pRequest_any P D hbd 1 T1 K _ cr ar (rivalsL P.conf P.id) rfl (Nat.le_trans HRL.out (by omega)) _ HS.2.2.1 HUr.out).mono ?_
 rintro e w4 ⟨v1, O1, rfl, hC1, hO1, hb⟩
 have HO1 := hI_ hO1
 have HC1 := hC1.mono (B' := y + 1) HS.2.1.lt
 clear hC1 hO1
 go_wp2_with fail
 refine hK.out _ _ ⟨HS.1.later hb, HS.2.1.later hb, HS.2.2.1.later hb, HS.2.2.2.trans (hb.mono HS.2.2.2.size)⟩ (fun HS => ?_)
 clear hK
 try simp only [ly, Act.put]
 refine tkp (i := 8) rfl HS ?_
 try simp only [ly, Act.put]
 refine wpAnyH_done (by kernel_rfl) ?_ _
 replace HN := HS.1
 replace HR := HS.2.1
 replace HM := HS.2.2.1
 replace HB := HS.2.2.2
 clear HS
 have HSZ1 := hI_ HB.size
 go_wp2_with (first
  | (refine lBk rfl _ rfl rfl nodeT (by assumption) rfl ?_))
 refine (HCT.out _ _ _ (Nat.le_trans hK HB.size) HM).mono ?_
 rintro e w6 ⟨D3, v2, O2, rfl, hm3, hC2, hO2, hb⟩
 simp only at hm3 hO2
 have HO2 := hI_ hO2
 have HC2 := hC2.mono HSZ1.out
 replace HC1 := HC1.later hb
 replace HB := HB.trans (hb.mono HB.size)
 replace HR := HR.later hb
 replace HN := HN.later hb
 replace HM := hm3
 clear hm3 hC2 hO2 hb
 go_wp2_with (first
  | (refine sBk rfl _ _ rfl rfl rfl nodeT HN rfl rfl rfl ?_; intro w' hk hg; replace HR := HR.grown hg (by have := hyn.out; omega); replace HC1 := HC1.box hg HN.bx.ty boxNm; replace HC2 := HC2.box hg HN.bx.ty boxNm; replace HM := HM.grown hg (hK) HN.bx.ty bNd; replace HB := bGr HB hg HB.size (Nat.le_refl _); replace HN := hk; clear hk hg))
 replace HR := HR.later ((Below.refl _ _).drew)
 replace HC1 := HC1.later ((Below.refl _ _).drew)
 replace HC2 := HC2.later ((Below.refl _ _).drew)
 obtain ⟨a2, c2, rfl, hM2, _⟩ := HC2.form
 have HM2 := hI_ hM2
 have HLL := hI_ (show O1.length + O2.length ≤ 1000000 by
  have e1 := congrArg List.length HO1.out
  have e2 := congrArg List.length HO2.out
  simp only [List.length_map] at e1 e2
  have h1 : M3.length ≤ 17 := HLN.out
  have h2 := HRL.out
  omega)
 clear hM2
 refine wp_region_held_drew (S := fun w' => Bk w' w.heap.size 34 (ndL P3 D3) ∧ NdM K w' P3 D3 ∧ Below w.heap.size w w') (by kernel_rfl) (⟨HN.later ((Below.refl _ _).drew), HM.later ((Below.refl _ _).drew), HB.drew⟩) (fun HS => ?_)
 refine tkh (i := 0) (v := (.agg (ndL P3 D3).toArray)) rfl ⟨by rfl, fun _ hSw => eLb _ rfl rfl nodeT hSw.1 rfl⟩ HS ?_
 try simp only [ly, Act.put]
 refine tkp (i := 1) rfl HS ?_
 try simp only [ly, Act.put]
 refine tkp (i := 2) rfl HS ?_
 try simp only [ly, Act.put]
 refine onh (r := 3) (by kernel_rfl) rfl (fun KK hK => ?_)
 refine step_appE (by rfl) _ _ _ (by rfl) _ _ (by rfl) (by rfl) _ (app_mgG (y + 1) _ _ v1 O1 HC1 a2 O2.length c2 O2 rfl HM2.out HC2.2 HLL.out HR.lt) ?_
 rintro v4 w8 ⟨HC4, hb, hgr⟩
 replace HC4 := HC4.mono (show w.heap.size ≤ y + 1 by have := hyn.out; omega)
 replace HR := HR.rowed (Nat.lt_succ_self _) hb
 refine hK.out _ _ ⟨HS.1.rowed (by have := hyn.out; omega) hb, HS.2.1.rowed (by have := hyn.out; omega) hgr, HS.2.2.trans (hb.mono (by have := hyn.out; omega))⟩ (fun HS => ?_)
 clear hK
 try simp only [ly, Act.put]
 refine onh (r := 4) (by kernel_rfl) rfl (fun KK hK => ?_)
 rw [if_pos (by rfl)]
 refine wSb _ _ rfl rfl (M := ndL P3 D3) rfl nodeT HR rfl rfl rfl ?_
 intro w' hk hg
 replace HC4 := HC4.box hg HR.bx.ty boxNm
 have HM1 := HS.2.1.grown hg (by have := hyn.out; omega) HR.bx.ty bNd
 have HN1 := HS.1.grown hg (by have := hyn.out; omega)
 have HB1 := bGr HS.2.2 hg HS.2.2.size (by have := hyn.out; omega)
 replace HR := hk
 clear hk hg
 refine hK.out _ _ ⟨HN1, HM1, HB1⟩ (fun HS => ?_)
 clear hK
 try simp only [ly, Act.put]
 refine tkp (i := 5) rfl HS ?_
 try simp only [ly, Act.put]
 refine wpAnyH_done (by kernel_rfl) ?_ _
 have HF := hI_ (show ∀ w1, Below w.heap.size w w1 → NdM K w1 P3 D3 → CqG w.heap.size w1 v4 (O1 ++ O2) → NmP K w (askP p) (.returned (.tuple #[ndV P3 D3, v4])) w1 from fun w1 hb hm hc => by rw [HSP.out]; exact ⟨D3, v4, O1 ++ O2, rfl, hm, hc, by rw [List.map_append, HO1.out, HO2.out], hb⟩)
 go_wp2_with fail
 refine bodyPost_ret (v := .tuple #[ndV P3 D3, v4]) (by rw [rBt Tryz.results35 _ rfl nodeT HR rfl]; rfl) rfl ?_
 exact HF.out _ HS.2.2 HS.2.1 HC4

theorem pCount8_any (hRM : RmOk) (p : Pn) (d : Ad) (hBd : Bd p) (K : Nat) (w : World) (hK : K ≤ w.heap.size) (hM : NdM K w p d) : Calls Tryz.prog 69 #[ndV p d] w (NmP K w (countP p)) :=
 pCountG_any hRM p d hBd K w hK hM (fun _ w1 hk hm => pStand_any hRM p d hBd K w1 hk hm)
theorem bd_say {p : Pn} (h : Bd p) (hv : p.voices.length * 16 ≤ 140737488352900) {i : Nat} (hi : i < 18446744073709551616) (y : Bool) : Bd { p with voices := sayL p.voices i y } :=
 ⟨h.id, h.may, h.term, h.vote, h.base, h.bt, h.snap, h.ents, h.data, h.commit, by
  have := sayL_len p.voices i y
  show (sayL p.voices i y).length * 16 ≤ _
  omega, fun x hx => by
  have hx : x ∈ sayL p.voices i y := hx
  unfold sayL at hx
  split at hx
  · exact h.ids x hx
  · rcases List.mem_append.1 hx with hx | hx
    · exact h.ids x hx
    · simp only [List.mem_singleton] at hx; subst hx; exact hi, h.next, h.mat, h.marks, h.nexts⟩
theorem CqV.ty {B : Nat} (K : Nat) {w : World} {v : Value} {L : List Vo} (h : CqV B w v L) : ∃ a c, v = .slice a L.length c ∧ Vs w a L ∧ Ty K w a L.length 107 := by
 obtain ⟨a, c, e, hM, _⟩ := h.form voT
 refine ⟨a, c, e, hM, ?_⟩
 rcases h with ⟨h0, _⟩ | h
 · rw [h0]; exact Ty.nil _ _ _ _
 · exact Ty.of_owns h e
theorem pSay8_any (hRM : RmOk) (p : Pn) (d : Ad) (hBd : Bd p) (hvb : p.voices.length * 16 ≤ 140737488352900) (m : Mg) (hfr : m.fr < 18446744073709551616) (K : Nat) (w : World) (hK : K ≤ w.heap.size) (hM : NdM K w p d) :
 Calls Tryz.prog 74 #[ndV p d, mgV m] w (NmP K w (sayP p m)) := by
 obtain ⟨W, hW, B0, N0, Z0⟩ := nk_new w p d
 obtain ⟨Wm, ym, hWm, hym, Bm, HG, Zm⟩ := bk_new W (mgA m) 52
 obtain ⟨W1, y, hW1, hy, B1, HR, Z1⟩ := bk_new Wm znA 34
 have Bm' : Below W.heap.size W Wm := hym ▸ Bm
 have B1' : Below Wm.heap.size Wm W1 := hy ▸ B1
 have HB1 := B0.trans (Bm'.mono B0.size)
 have HN := (N0.later Bm').later B1'
 replace HG := HG.later B1'
 have HB := HB1.trans (B1'.mono HB1.size)
 have hyn := hI_ (show w.heap.size < y ∧ w.heap.size < ym ∧ ym < y by have := Z0.out; have := Zm.out; omega)
 clear B0 N0 B1 Bm Bm' B1' HB1
 unfold ndA at hW
 unfold mgA at hWm
 unfold znA at hW1
 have HM := hM.later HB
 have hsay : (p.voices.length + 1) * 16 ≤ 140737488355328 := by omega
 have hbd := bd_say hBd hvb hfr m.ok
 obtain ⟨P, hP⟩ : ∃ P : Pn, P = { p with voices := sayL p.voices m.fr m.ok } := ⟨_, rfl⟩
 rw [← hP] at hbd
 have HPE := hI_ hP
 have HSP := hI_ (show sayP p m = countP P by rw [hP]; rfl)
 have HRM := hI_ hRM
 clear hM hP hRM
 go_enter Tryz.func74, Tryz.ntmps74
 go_wp2_with (first
  | (refine lCc rfl _ rfl rfl (ocA rfl) (by assumption) rfl ?_))
 refine (pSay_any m.fr _ _ m.ok _ p.voices rfl hsay _ HM.o).mono ?_
 rintro e w2 ⟨v2, rfl, hcv, hb⟩
 obtain ⟨a2, c2, rfl, hV2, hT2⟩ := hcv.ty K
 replace HB := HB.trans (hb.mono HB.size)
 replace HN := HN.later hb
 replace HR := HR.later hb
 replace HM := HM.vos hb (c := c2) hV2 hT2
 obtain ⟨D, hD⟩ : ∃ D : Ad, D = { d with o := ⟨a2, c2⟩ } := ⟨_, rfl⟩
 have HPD := hI_ (show ndL P D = ndL { p with voices := sayL p.voices m.fr m.ok } { d with o := ⟨a2, c2⟩ } by rw [HPE.out, hD])
 replace HM : NdM K w2 P D := by rw [HPE.out, hD]; exact HM
 generalize sayL p.voices m.fr m.ok = SL at *
 clear hb hcv hV2 hT2 HG hD
 go_wp2_with (first
  | (refine sCc (v := .slice a2 SL.length c2) rfl _ _ rfl rfl rfl ocV HN rfl rfl rfl ?_; intro w' hk hg; replace HR := HR.grown hg (by have := hyn.out; omega); replace HM := HM.grown hg (hK) HN.bx.ty bNd; replace HB := bGr HB hg HB.size (Nat.le_refl _); replace HN := hk; clear hk hg)
  | (refine lBk rfl _ rfl rfl nodeT (L := ndL P D) (by rw [HPD.out]; exact HN) rfl ?_))
 have HSZ := hI_ HB.size
 refine (pCount8_any HRM.out P D hbd K _ (Nat.le_trans hK HB.size) HM).mono ?_
 obtain ⟨P3, M3, h3⟩ : ∃ P3 M3, countP P = (P3, M3) := ⟨_, _, rfl⟩
 have HQ := hI_ (show sayP p m = (P3, M3) from HSP.out.trans h3)
 rw [h3]
 clear h3
 rintro e w6 ⟨D3, v, O, rfl, hm3, hC, hO, hb⟩
 replace HB := HB.trans (hb.mono HB.size)
 replace HR := HR.later hb
 replace HM := hm3
 replace hC := hC.mono HSZ.out
 simp only at hO HM
 have HO := hI_ hO
 clear hb hm3 hO HN
 go_wp2_with (first
  | (refine sBk rfl _ _ rfl rfl rfl nodeT HR rfl rfl rfl ?_; intro w' hk hg; replace HM := HM.grown hg (by have := hyn.out; omega) HR.bx.ty bNd; replace hC := hC.box hg HR.bx.ty boxNm; replace HB := bGr HB hg HB.size (by have := hyn.out; omega); replace HR := hk; clear hk hg))
 refine bodyPost_ret (v := .tuple #[ndV P3 D3, v]) (by rw [rBt Tryz.results74 _ rfl nodeT HR rfl]; rfl) rfl ?_
 rw [HQ.out]
 exact ⟨D3, v, O, rfl, HM, hC, HO.out, HB⟩

structure Bm (m : Mg) : Prop where
 fr : m.fr < 18446744073709551616
 dst : m.dst < 18446744073709551616
 term : m.term < 18446744073709551616
 i : m.i < 18446744073709551616
 lt : m.lt < 18446744073709551616
 commit : m.commit < 18446744073709551616
 es : m.es.length * 24 ≤ 140737488351232
 snap : m.snap.size ≤ 140737488351232
 data : ∀ x ∈ m.es, x.t < 18446744073709551616 ∧ x.d.size ≤ 140737488351232
 ec : m.es.length ≤ m.cap
 em : m.cap ≤ maxLen
section
variable {w : World} {ops : Array Oper} {rest : List Oper} {o : Oper} {a : Act} {Q : Exit → Act → World → Prop} {k k' k'' : IntKind}
theorem exec_max2 (x y : Operand) (ts : Array TypeId) (ho : o.op = .call { callee := .builtin .max, args := #[x, y], argTypes := ts }) {i j r : Int} (hx : a.eval x = .int k i) (hy : a.eval y = .int k' j) (hr : (if j > i then j else i) = r) : (execOp a.eval o).run Tryz.prog w = .ok (.value (.int k r)) w := by
 subst hr
 generalize a.eval = ev at *
 unfold execOp
 simp [ho, hx, hy, go_sem]
 try (split <;> omega)
theorem exec_min2 (x y : Operand) (ts : Array TypeId) (ho : o.op = .call { callee := .builtin .min, args := #[x, y], argTypes := ts }) {i j r : Int} (hx : a.eval x = .int k i) (hy : a.eval y = .int k' j) (hr : (if j < i then j else i) = r) : (execOp a.eval o).run Tryz.prog w = .ok (.value (.int k r)) w := by
 subst hr
 generalize a.eval = ev at *
 unfold execOp
 simp [ho, hx, hy, go_sem]
 try (split <;> omega)
theorem exec_max3 (x y z : Operand) (ts : Array TypeId) (ho : o.op = .call { callee := .builtin .max, args := #[x, y, z], argTypes := ts }) {i j l r s : Int} (hx : a.eval x = .int k i) (hy : a.eval y = .int k' j) (hz : a.eval z = .int k'' l) (hr : (if j > i then j else i) = r) (hs : (if l > r then l else r) = s) : (execOp a.eval o).run Tryz.prog w = .ok (.value (.int k s)) w := by
 subst hs; subst hr
 generalize a.eval = ev at *
 unfold execOp
 simp [ho, hx, hy, hz, go_sem]
 try (split <;> omega)
theorem wpList_val (hgd : o.guard = none) {v : Value} (h : (execOp a.eval o).run Tryz.prog w = .ok (.value v) w) (hk : wpList Tryz.prog ops Q rest (a.put o.dst v) w) : wpList Tryz.prog ops Q (o :: rest) a w :=
 wpList_plain hgd fun K hK => by
  unfold Oper.wp
  rw [h]
  exact hK _ _ hk
end
section
variable {w : World} {ops : Array Oper} {rest : List Oper} {o : Oper} {a : Act} {Q : Exit → Act → World → Prop} {T E : TypeId} {g n : Nat} {L : List Value}
theorem wpList_grd (hw : Region.wanted o (yielded ops a.tmps) = true) (h : ∀ K : Act → World → Prop, (∀ a w, wpList Tryz.prog ops Q rest a w → K a w) → o.wp Tryz.prog a w K Q) : wpList Tryz.prog ops Q (o :: rest) a w :=
 wpList_step fun K hK => by rw [if_pos hw]; exact h K hK
theorem wpList_load_bkg (hw : Region.wanted o (yielded ops a.tmps) = true) (x : Operand) (ho : o.op = .load T x) (hx : a.eval x = .pointer (some ⟨g, 0, none⟩)) (hS : StT T n) (H : Bk w g E L) (hn : L.length = n) (h : wpList Tryz.prog ops Q rest (a.put o.dst (.agg L.toArray)) w) : wpList Tryz.prog ops Q (o :: rest) a w :=
 wpList_grd hw fun _ hK => wp_load_bk x ho hx hS H hn (hK _ _ h)
end
theorem max_nat (i j : Nat) : (if (j : Int) > (i : Int) then (j : Int) else (i : Int)) = ((max i j : Nat) : Int) := by
 by_cases h : i < j
 · rw [if_pos (by omega), Nat.max_eq_right (by omega)]
 · rw [if_neg (by omega), Nat.max_eq_left (by omega)]
theorem min_nat (i j : Nat) : (if (j : Int) < (i : Int) then (j : Int) else (i : Int)) = ((min i j : Nat) : Int) := by
 by_cases h : j < i
 · rw [if_pos (by omega), Nat.min_eq_right (by omega)]
 · rw [if_neg (by omega), Nat.min_eq_left (by omega)]
end Go.Proofs.YtdcpiaoadbbdoaaGreat
