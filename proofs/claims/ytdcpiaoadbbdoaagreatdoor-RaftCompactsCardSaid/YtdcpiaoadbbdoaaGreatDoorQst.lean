/- A node stands. -/
import Derived.Test.YtdcpiaoadbbdoaaGreatDoorRb
import Derived.Test.YtdcpiaoadbbdoaaGreatDoorQdm
set_option maxRecDepth 100000
set_option maxHeartbeats 16000000
namespace Go.Proofs.YtdcpiaoadbbdoaaGreatDoor
open Go.RowKit

theorem pStand_any (hRM : RmOk) (p : Pn) (d : Ad) (hBd : Bd p) (K : Nat) (w : World) (hK : K ≤ w.heap.size) (hM : NdM K w p d) :
 Calls Tryz.prog 154 #[ndV p d] w (NmP K w (standP p)) := by
 obtain ⟨W, hW, B0, N0, Z0⟩ := nk_new w p d
 obtain ⟨W1, y, hW1, hy, B1, HR, Z1⟩ := bk_new W znA 34
 have HN := N0.later (hy ▸ B1)
 have HB := B0.trans (B1.mono (by have := Z0.out; omega))
 have hyn := hI_ (show w.heap.size < y by have := Z0.out; omega)
 clear B0 N0 B1
 unfold ndA at hW
 unfold znA at hW1
 have HM := hM.later HB
 obtain ⟨T1, hT1⟩ : ∃ T1, (p.term + 1) % 18446744073709551616 = T1 := ⟨_, rfl⟩
 have wT : IntKind.u64.wrap ((p.term : Int) + 1) = (T1 : Int) := by rw [IntKind.wrap_u64]; omega
 obtain ⟨P, hP⟩ : ∃ P : Pn, P = standQ p := ⟨_, rfl⟩
 have hbd : Bd P := by rw [hP]; exact bd_stand hBd
 have HTT := hI_ hT1
 have HTP := hI_ (show P.term = T1 by rw [hP]; exact hT1)
 have HPE := hI_ hP
 have HSP := hI_ (show standP p = ((countP P).1, (rivalsL P.conf P.id).map (reqG P 3 T1) ++ (countP P).2) by rw [standP_eq, hP, ← hT1]; rfl)
 have HCT := hI_ (show ∀ d K w, K ≤ w.heap.size → NdM K w P d → Calls Tryz.prog 122 #[ndV P d] w (NmP K w (countP P)) from fun d K w hk hm => pCountG_any hRM P d hbd K w hk hm (fun h => by rw [hP] at h; cases h))
 have HLN := hI_ (countP_len hbd)
 have HRL := hI_ (riv_len (id := P.id) (conf_may hbd.may))
 obtain ⟨P3, M3, h3⟩ : ∃ P3 M3, countP P = (P3, M3) := ⟨_, _, rfl⟩
 rw [h3] at HSP HCT HLN
 clear hM hP hT1 h3
 go_enter Tryz.func154, Tryz.ntmps154
 go_wp2_with (first
  | (refine lCc rfl _ rfl rfl (ocA rfl) (by assumption) rfl ?_)
  | (refine sCc (v := .int .u64 T1) rfl _ _ rfl rfl rfl ocU HN rfl rfl rfl ?_; intro w' hk hg; replace HR := HR.grown hg (by have := hyn.out; omega); replace HM := HM.grown hg (hK) HN.bx.ty bNd; replace HB := bGr HB hg HB.size (Nat.le_refl _); replace HN := hk; clear hk hg)
  | (refine sCc (v := .int .u64 p.id) rfl _ _ rfl rfl rfl ocU HN rfl rfl rfl ?_; intro w' hk hg; replace HR := HR.grown hg (by have := hyn.out; omega); replace HM := HM.grown hg (hK) HN.bx.ty bNd; replace HB := bGr HB hg HB.size (Nat.le_refl _); replace HN := hk; clear hk hg)
  | (refine sCc (v := .int .i64 2) rfl _ _ rfl rfl rfl ocI HN rfl rfl rfl ?_; intro w' hk hg; replace HR := HR.grown hg (by have := hyn.out; omega); replace HM := HM.grown hg (hK) HN.bx.ty bNd; replace HB := bGr HB hg HB.size (Nat.le_refl _); replace HN := hk; clear hk hg)
  | (refine sCc (v := .int .u64 0) rfl _ _ rfl rfl rfl ocU HN rfl rfl rfl ?_; intro w' hk hg; replace HR := HR.grown hg (by have := hyn.out; omega); replace HM := HM.grown hg (hK) HN.bx.ty bNd; replace HB := bGr HB hg HB.size (Nat.le_refl _); replace HN := hk; clear hk hg; obtain ⟨wv, z, hwv, hz, BV, HV, ZV⟩ := bk_new w' #[.int .u64 p.id, .bool true] 144; (have BV' : Below w'.heap.size w' wv := hz ▸ BV); (have HVS : Vs wv (some ⟨z, 0, none⟩) [⟨p.id, true⟩] := by rw [← hwv, ← hz]; exact rw_one w' rfl (⟨p.id, true⟩ : Vo) (os := #[.int .u64 p.id, .bool true]) rfl 144); (have HVT : Ty K wv (some ⟨z, 0, none⟩) 1 144 := fun _ q e => by cases e; exact ⟨HV.lt, .inr HV.bx.ty⟩); have HNo := HN; replace HM := HM.vos BV' (c := 1) HVS HVT; replace HN := HN.later BV'; replace HR := HR.later BV'; replace HB := HB.trans (BV'.mono HB.size); clear BV BV' HVS HVT HV)
  | (refine sCc (v := .slice (some ⟨z, 0, none⟩) 1 1) rfl _ _ rfl rfl rfl ocV HN rfl rfl rfl ?_; intro w' hk hg; replace HR := HR.grown hg (by have := hyn.out; omega); replace HM := HM.grown hg (hK) HN.bx.ty bNd; replace HB := bGr HB hg HB.size (Nat.le_refl _); replace HN := hk; clear hk hg; obtain ⟨D, hD⟩ : ∃ D : Ad, D = { d with o := ⟨some ⟨z, 0, none⟩, 1⟩ } := ⟨_, rfl⟩; (replace HN : Bk w' w.heap.size 34 (ndL P D) := by rw [HPE.out, hD, show standQ p = { p with term := T1, vote := p.id, role := 2, lead := 0, voices := [⟨p.id, true⟩] } by rw [← HTT.out]; rfl]; exact HN); (replace HM : NdM K w' P D := by rw [HPE.out, hD]; exact HM.same rfl rfl rfl rfl rfl); clear hD))
 refine wp_region_held_drew (S := fun w' => Bk w' w.heap.size 34 (ndL P D) ∧ Bk w' y 34 znA.toList ∧ NdM K w' P D ∧ Below w.heap.size w w') (by kernel_rfl) (⟨HN.later ((Below.refl _ _).drew), HR.later ((Below.refl _ _).drew), HM.later ((Below.refl _ _).drew), HB.drew⟩) (fun HS => ?_)
 refine tkh (i := 0) (v := (.agg (ndL P D).toArray)) rfl ⟨by rfl, fun _ hSw => eLb _ rfl rfl nodeT hSw.1 rfl⟩ HS ?_
 try simp only [ly, Act.put]
 refine tkp (i := 1) rfl HS ?_
 try simp only [ly, Act.put]
 refine tkp (i := 2) rfl HS ?_
 refine tkh (i := 3) (v := (.int .u64 T1)) rfl ⟨by rfl, fun _ hSw => exec_load_c _ rfl rfl ocU hSw.1 (by rw [← HTP.out]; rfl)⟩ HS ?_
 refine tkh (i := 4) (v := (.agg (ndL P D).toArray)) rfl ⟨by rfl, fun _ hSw => eLb _ rfl rfl nodeT hSw.1 rfl⟩ HS ?_
 try simp only [ly, Act.put]
 refine onh (r := 5) (by kernel_rfl) rfl (fun KK hK => ?_)
 go_simp
 refine (pRivals_any P D hbd K _ HS.2.2.1).mono ?_
 rintro e w2 ⟨ar, cr, rfl, hUr, _, hb⟩
 have HUr := hI_ hUr
 clear hUr
 go_wp2_with fail
 refine hK.out _ _ ⟨HS.1.later hb, HS.2.1.later hb, HS.2.2.1.later hb, HS.2.2.2.trans (hb.mono HS.2.2.2.size)⟩ (fun HS => ?_)
 clear hK
 try simp only [ly, Act.put]
 refine onh (r := 6) (by kernel_rfl) rfl (fun KK hK => ?_)
 go_simp
 refine (pRequest_any P D hbd 3 T1 K _ cr ar (rivalsL P.conf P.id) rfl (Nat.le_trans HRL.out (by omega)) _ HS.2.2.1 HUr.out).mono ?_
 rintro e w4 ⟨v1, O1, rfl, hC1, hO1, hb⟩
 have HO1 := hI_ hO1
 have HC1 := hC1.mono (B' := y + 1) HS.2.1.lt
 clear hC1 hO1
 go_wp2_with fail
 refine hK.out _ _ ⟨HS.1.later hb, HS.2.1.later hb, HS.2.2.1.later hb, HS.2.2.2.trans (hb.mono HS.2.2.2.size)⟩ (fun HS => ?_)
 clear hK
 try simp only [ly, Act.put]
 refine tkp (i := 7) rfl HS ?_
 try simp only [ly, Act.put]
 refine wpAnyH_done (by kernel_rfl) ?_ _
 replace HN := HS.1
 replace HR := HS.2.1
 replace HM := HS.2.2.1
 replace HB := HS.2.2.2
 clear HS
 have HSZ1 := hI_ HB.size
 go_wp2_with (first
  | (refine lBk rfl _ rfl rfl nodeT (by assumption) rfl ?_))
 refine (HCT.out _ _ _ (Nat.le_trans hK HB.size) HM).mono ?_
 rintro e w6 ⟨D3, v2, O2, rfl, hm3, hC2, hO2, hb⟩
 simp only at hm3 hO2
 have HO2 := hI_ hO2
 have HC2 := hC2.mono HSZ1.out
 replace HC1 := HC1.later hb
 replace HB := HB.trans (hb.mono HB.size)
 replace HR := HR.later hb
 replace HN := HN.later hb
 replace HM := hm3
 clear hm3 hC2 hO2 hb
 go_wp2_with (first
  | (refine sBk rfl _ _ rfl rfl rfl nodeT HN rfl rfl rfl ?_; intro w' hk hg; replace HR := HR.grown hg (by have := hyn.out; omega); replace HC1 := HC1.box hg HN.bx.ty boxNm; replace HC2 := HC2.box hg HN.bx.ty boxNm; replace HM := HM.grown hg (hK) HN.bx.ty bNd; replace HB := bGr HB hg HB.size (Nat.le_refl _); replace HN := hk; clear hk hg))
 replace HR := HR.later ((Below.refl _ _).drew)
 replace HC1 := HC1.later ((Below.refl _ _).drew)
 replace HC2 := HC2.later ((Below.refl _ _).drew)
 obtain ⟨a2, c2, rfl, hM2, _⟩ := HC2.form
 have HM2 := hI_ hM2
 have HLL := hI_ (show O1.length + O2.length ≤ 1000000 by
  have e1 := congrArg List.length HO1.out
  have e2 := congrArg List.length HO2.out
  simp only [List.length_map] at e1 e2
  have h1 : M3.length ≤ 17 := HLN.out
  have h2 := HRL.out
  omega)
 clear hM2
 refine wp_region_held_drew (S := fun w' => Bk w' w.heap.size 34 (ndL P3 D3) ∧ NdM K w' P3 D3 ∧ Below w.heap.size w w') (by kernel_rfl) (⟨HN.later ((Below.refl _ _).drew), HM.later ((Below.refl _ _).drew), HB.drew⟩) (fun HS => ?_)
 refine tkh (i := 0) (v := (.agg (ndL P3 D3).toArray)) rfl ⟨by rfl, fun _ hSw => eLb _ rfl rfl nodeT hSw.1 rfl⟩ HS ?_
 try simp only [ly, Act.put]
 refine tkp (i := 1) rfl HS ?_
 try simp only [ly, Act.put]
 refine tkp (i := 2) rfl HS ?_
 try simp only [ly, Act.put]
 refine onh (r := 3) (by kernel_rfl) rfl (fun KK hK => ?_)
 refine step_appE (by rfl) _ _ _ (by rfl) _ _ (by rfl) (by rfl) _ (app_mgG (y + 1) _ _ v1 O1 HC1 a2 O2.length c2 O2 rfl HM2.out HC2.2 HLL.out HR.lt) ?_
 rintro v4 w8 ⟨HC4, hb, hgr⟩
 replace HC4 := HC4.mono (show w.heap.size ≤ y + 1 by have := hyn.out; omega)
 replace HR := HR.rowed (Nat.lt_succ_self _) hb
 refine hK.out _ _ ⟨HS.1.rowed (by have := hyn.out; omega) hb, HS.2.1.rowed (by have := hyn.out; omega) hgr, HS.2.2.trans (hb.mono (by have := hyn.out; omega))⟩ (fun HS => ?_)
 clear hK
 try simp only [ly, Act.put]
 refine onh (r := 4) (by kernel_rfl) rfl (fun KK hK => ?_)
 rw [if_pos (by rfl)]
 refine wSb _ _ rfl rfl (M := ndL P3 D3) rfl nodeT HR rfl rfl rfl ?_
 intro w' hk hg
 replace HC4 := HC4.box hg HR.bx.ty boxNm
 have HM1 := HS.2.1.grown hg (by have := hyn.out; omega) HR.bx.ty bNd
 have HN1 := HS.1.grown hg (by have := hyn.out; omega)
 have HB1 := bGr HS.2.2 hg HS.2.2.size (by have := hyn.out; omega)
 replace HR := hk
 clear hk hg
 refine hK.out _ _ ⟨HN1, HM1, HB1⟩ (fun HS => ?_)
 clear hK
 try simp only [ly, Act.put]
 refine tkp (i := 5) rfl HS ?_
 try simp only [ly, Act.put]
 refine wpAnyH_done (by kernel_rfl) ?_ _
 have HF := hI_ (show ∀ w1, Below w.heap.size w w1 → NdM K w1 P3 D3 → CqG w.heap.size w1 v4 (O1 ++ O2) → NmP K w (standP p) (.returned (.tuple #[ndV P3 D3, v4])) w1 from fun w1 hb hm hc => by rw [HSP.out]; exact ⟨D3, v4, O1 ++ O2, rfl, hm, hc, by rw [List.map_append, HO1.out, HO2.out], hb⟩)
 go_wp2_with fail
 refine bodyPost_ret (v := .tuple #[ndV P3 D3, v4]) (by rw [rBt Tryz.results154 _ rfl nodeT HR rfl]; rfl) rfl ?_
 exact HF.out _ HS.2.2 HS.2.1 HC4
end Go.Proofs.YtdcpiaoadbbdoaaGreatDoor
