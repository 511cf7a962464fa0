/- A leader's entries are joined: behind the end. -/
import Derived.Test.YtdcpiaoadbbdoaaGreatBulk
import Derived.Test.YtdcpiaoadbbdoaaGreatQmb
import Derived.Test.YtdcpiaoadbbdoaaGreatQrw
import Derived.Test.YtdcpiaoadbbdoaaGreatQjna
import Derived.Test.YtdcpiaoadbbdoaaGreatQjnb
set_option maxRecDepth 100000
set_option maxHeartbeats 16000000
namespace Go.Proofs.YtdcpiaoadbbdoaaGreat
open Go.RowKit

theorem pJoin8_7 (p : Pn) (d : Ad) (hBd : Bd p) (m : Mg) (hm : Bm m) (hes : p.g.L.length + m.es.length ≤ 9000000000000) (K : Nat) (w : World) (hK : K ≤ w.heap.size) (hM : NdM K w p d) (hE : Ents w m.at_ m.es) {g1 : Lg} {f1 : Nat} (hJ : joinG p.g m.i m.lt m.es = (g1, f1, true)) (hf : ¬ f1 = 0) (hr : ¬ f1 ≤ p.endI) :
 Calls Tryz.prog 76 #[ndV p d, mgV m] w (NmP K w (joinP p m)) := by
 obtain ⟨W, hW, B0, N0, Z0⟩ := nk_new w p d
 obtain ⟨Wm, ym, hWm, hym, Bm, HG, Zm⟩ := bk_new W (mgA m) 52
 obtain ⟨W1, y, hW1, hy, B1, HR, Z1⟩ := bk_new Wm znA 34
 have Bm' : Below W.heap.size W Wm := hym ▸ Bm
 have B1' : Below Wm.heap.size Wm W1 := hy ▸ B1
 have HB1 := B0.trans (Bm'.mono B0.size)
 have HN := (N0.later Bm').later B1'
 replace HG := HG.later B1'
 have HB := HB1.trans (B1'.mono HB1.size)
 have hyn := hI_ (show w.heap.size < y ∧ w.heap.size < ym ∧ ym < y by have := Z0.out; have := Zm.out; omega)
 clear B0 N0 B1 Bm Bm' B1' HB1
 unfold ndA at hW
 unfold mgA at hWm
 unfold znA at hW1
 have HM := hM.later HB
 have hHE := hE.later HB
 have hmi64 := hm.i
 have HI64 := hI_ hm.i
 have HJ := hI_ hJ
 have HJC := hI_ (show ∀ w1, Below w.heap.size w w1 → Calls Tryz.prog 102 #[.agg #[.int .u64 p.g.base, .int .u64 p.g.bt, .string p.g.snap, .slice d.e.a p.g.L.length d.e.c], .int .u64 m.i, .int .u64 m.lt, .slice m.at_ m.es.length m.cap] w1 (JoT w1 d.e.a p.g.L (g1, f1, true)) from fun w1 hb => by
  rw [← hJ]
  exact pJoin_any _ _ _ _ _ _ _ _ _ _ _ p.g.L m.es rfl hes hM.ec hM.em hBd.base rfl hm.ec hm.em hm.i w1 (hM.later hb).e (hE.later hb))
 have hl48 : m.es.length ≤ 140737488351232 := by have := hm.es; omega
 obtain ⟨k1, hk1⟩ : ∃ k1 : Nat, (m.i + m.es.length) % 18446744073709551616 = k1 := ⟨_, rfl⟩
 have wln : IntKind.u64.wrap (m.es.length : Int) = (m.es.length : Int) := by rw [IntKind.wrap_u64]; omega
 have wk1 : IntKind.u64.wrap ((m.i : Int) + (m.es.length : Int)) = (k1 : Int) := by rw [IntKind.wrap_u64]; omega
 have HK1 := hI_ hk1
 obtain ⟨cn, hcn⟩ : ∃ cn : Nat, min m.commit k1 = cn := ⟨_, rfl⟩
 obtain ⟨cm, hcm⟩ : ∃ cm : Nat, max p.commit cn = cm := ⟨_, rfl⟩
 have HCN := hI_ (show (if (k1 : Int) < (m.commit : Int) then (k1 : Int) else (m.commit : Int)) = (cn : Int) by rw [← hcn]; exact min_nat m.commit k1)
 have HCX := hI_ (show (if (cn : Int) > (p.commit : Int) then (cn : Int) else (p.commit : Int)) = (cm : Int) by rw [← hcm]; exact max_nat p.commit cn)
 have HCM := hI_ (show max p.commit (min m.commit k1) = cm by rw [hcn, hcm])
 clear hM hE hJ hk1 hcn hcm hHE hmi64 hl48
 go_enter Tryz.func76, Tryz.ntmps76
 go_wp2_with (first
  | (refine lSb rfl _ rfl rfl [.int .u64 p.g.base, .int .u64 p.g.bt, .string p.g.snap, .slice d.e.a p.g.L.length d.e.c] logT HN rfl rfl ?_)
  | (refine lCc rfl _ rfl rfl (ocA rfl) (by assumption) rfl ?_))
 refine (HJC.out _ HB).mono ?_
 rintro e w2 ⟨a1, c1, rfl, hc1, hc2, hE1, hP1, hb⟩
 have HMJ := hI_ (show NdM K w2 { p with g := g1 } { d with e := ⟨a1, c1⟩ } from HM.log hb hE1 hc1 hc2 hP1)
 replace HB := HB.trans (hb.mono HB.size)
 replace HN := HN.later hb
 replace HG := HG.later hb
 replace HR := HR.later hb
 replace HM := HM.later hb
 clear hb hc1 hc2 hE1 hP1
 (try dsimp only)
 obtain ⟨w3, yl, hw3, hyl', B3, HL, Z3⟩ := bk_new w2 #[.int .u64 g1.base, .int .u64 g1.bt, .string g1.snap, .slice a1 g1.L.length c1] 28
 have hyl := hI_ (show w.heap.size < yl ∧ ym < yl ∧ y < yl by have := HN.lt; have := HG.lt; have := HR.lt; omega)
 have B3' : Below w2.heap.size w2 w3 := hyl' ▸ B3
 replace HB := HB.trans (B3'.mono HB.size)
 replace HN := HN.later B3'
 replace HG := HG.later B3'
 replace HR := HR.later B3'
 replace HM := HM.later B3'
 replace HMJ := hI_ (HMJ.out.later B3')
 clear B3 B3'
 have gf : ((f1 : Int) != 0) = true := by simp; omega
 have gf' : ((f1 : Int) == 0) = false := by simp; omega
 go_wp2_with (refine wpList_load_bkg (by rfl) _ rfl rfl nodeT HN rfl ?_)
 refine (pEnd_any p d hBd K _ HM).mono ?_
 rintro e w4 ⟨rfl, hb⟩
 replace HB := HB.trans (hb.mono HB.size)
 replace HN := HN.later hb
 replace HG := HG.later hb
 replace HR := HR.later hb
 replace HL := HL.later hb
 replace HM := HM.later hb
 replace HMJ := hI_ (HMJ.out.later hb)
 clear hb
 have gr : ¬ (f1 : Int) ≤ (p.endI : Int) := by omega
 obtain ⟨P, hP⟩ : ∃ P : Pn, P = { p with g := g1, commit := cm } := ⟨_, rfl⟩
 obtain ⟨D, hD⟩ : ∃ D : Ad, D = { d with e := ⟨a1, c1⟩ } := ⟨_, rfl⟩
 have HPE := hI_ hP
 have HDE := hI_ hD
 have HJP := hI_ (show joinP p m = (P, [replyG p m.fr true k1]) by unfold joinP; rw [if_neg (by rw [HJ.out]; rintro (h | h); exact absurd h (by simp); exact hr h.2.1), HJ.out, HK1.out, HCM.out, hP])
 have HRP := hI_ (show replyG p m.fr true k1 = replyG P m.fr true k1 by rw [hP]; rfl)
 rw [HRP.out] at HJP
 clear hP hD
 replace HM := HMJ.out
 clear HMJ
 go_wp2_with (first
  | (refine lBk rfl _ rfl rfl logT HL rfl ?_)
  | (refine wpList_store_sub rfl _ _ rfl rfl rfl logT HN rfl rfl rfl (L' := ndL { p with g := g1 } { d with e := ⟨a1, c1⟩ }) rfl ?_; intro w' hk hg; replace HR := HR.grown hg (by have := hyn.out; omega); replace HG := HG.grown hg (by have := hyn.out; omega); replace HL := HL.grown hg (by have := hyl.out; omega); replace HM := HM.grown hg hK HN.bx.ty bNd; replace HB := bGr HB hg HB.size (Nat.le_refl _); replace HN := hk; clear hk hg)
  | (refine wpList_val rfl (v := .int .u64 cn) (exec_min2 _ _ _ rfl rfl rfl HCN.out) ?_)
  | (refine wpList_val rfl (v := .int .u64 cm) (exec_max2 _ _ _ rfl rfl rfl HCX.out) ?_)
  | (refine lCc rfl _ rfl rfl (ocA rfl) (by assumption) rfl ?_)
  | (refine sCc (v := .int .u64 cm) rfl _ _ rfl rfl rfl ocU HN rfl rfl rfl ?_; intro w' hk hg; replace HR := HR.grown hg (by have := hyn.out; omega); replace HG := HG.grown hg (by have := hyn.out; omega); replace HM := HM.grown hg hK HN.bx.ty bNd; replace HB := bGr HB hg HB.size (Nat.le_refl _); replace HN := hk; clear hk hg; (replace HN : Bk w' w.heap.size 34 (ndL P D) := by rw [HPE.out, HDE.out]; exact HN); (replace HM : NdM K w' P D := by rw [HPE.out, HDE.out]; exact HM.same rfl rfl rfl rfl rfl)))
 replace HR := HR.later ((Below.refl _ _).drew)
 refine wp_region_held_drew (S := fun w' => Bk w' w.heap.size 34 (ndL P D) ∧ Bk w' ym 52 (mgC m) ∧ NdM K w' P D ∧ Below w.heap.size w w') (by kernel_rfl) (⟨HN.later ((Below.refl _ _).drew), HG.later ((Below.refl _ _).drew), HM.later ((Below.refl _ _).drew), HB.drew⟩) (fun HS => ?_)
 refine tkh (i := 0) (v := (.agg (ndL P D).toArray)) rfl ⟨by rfl, fun _ hSw => eLb _ rfl rfl nodeT hSw.1 rfl⟩ HS ?_
 refine tkh (i := 1) (v := (.agg (ndL P D).toArray)) rfl ⟨by rfl, fun _ hSw => eLb _ rfl rfl nodeT hSw.1 rfl⟩ HS ?_
 try simp only [ly, Act.put]
 refine tkp (i := 2) rfl HS ?_
 refine tkh (i := 3) (v := (.int .u64 m.fr)) rfl ⟨by rfl, fun _ hSw => exec_load_c _ rfl rfl ocU hSw.2.1 rfl⟩ HS ?_
 try simp only [ly, Act.put]
 refine tkp (i := 4) rfl HS ?_
 try simp only [ly, Act.put]
 refine onh (r := 5) (by kernel_rfl) rfl (fun KK hK => ?_)
 go_simp
 refine (pReply_any P D m.fr true k1 _).mono ?_
 rintro e w5 ⟨v, O, rfl, hC, hO, hb⟩
 have HC := hC.mono HS.2.2.2.size
 have HO := hI_ hO
 clear hC hO
 replace HR := HR.later hb
 go_wp2_with fail
 refine hK.out _ _ ⟨HS.1.later hb, HS.2.1.later hb, HS.2.2.1.later hb, HS.2.2.2.trans (hb.mono HS.2.2.2.size)⟩ (fun HS => ?_)
 clear hK
 try simp only [ly, Act.put]
 refine onh (r := 6) (by kernel_rfl) rfl (fun KK hK => ?_)
 rw [if_pos (by rfl)]
 refine wSb _ _ rfl rfl (M := ndL P D) rfl nodeT HR rfl rfl rfl ?_
 intro w' hk hg
 have HS9 := And.intro (HS.1.grown hg (by have := hyn.out; omega)) (And.intro (HS.2.1.grown hg (by have := hyn.out; omega)) (And.intro (HS.2.2.1.grown hg (by have := hyn.out; omega) HR.bx.ty bNd) (bGr HS.2.2.2 hg HS.2.2.2.size (by have := hyn.out; omega))))
 have HC := HC.box hg HR.bx.ty boxNm
 replace HR := hk
 clear hk hg
 refine hK.out _ _ HS9 (fun HS => ?_)
 clear HS9
 clear hK
 try simp only [ly, Act.put]
 refine tkp (i := 7) rfl HS ?_
 try simp only [ly, Act.put]
 refine wpAnyH_done (by kernel_rfl) ?_ _
 go_wp2_with fail
 refine bodyPost_ret (v := .tuple #[ndV P D, v]) (by rw [rBt Tryz.results76 _ rfl nodeT HR rfl]; rfl) rfl ?_
 rw [HJP.out]
 exact ⟨D, v, O, rfl, HS.2.2.1, HC, HO.out, HS.2.2.2⟩

theorem pJoin8_6 (p : Pn) (d : Ad) (hBd : Bd p) (m : Mg) (hm : Bm m) (hes : p.g.L.length + m.es.length ≤ 9000000000000) (K : Nat) (w : World) (hK : K ≤ w.heap.size) (hM : NdM K w p d) (hE : Ents w m.at_ m.es) {g1 : Lg} {f1 : Nat} (hJ : joinG p.g m.i m.lt m.es = (g1, f1, true)) (hf : ¬ f1 = 0) (hr : f1 ≤ p.endI) (hc : ¬ f1 ≤ p.commit) :
 Calls Tryz.prog 76 #[ndV p d, mgV m] w (NmP K w (joinP p m)) := by
 obtain ⟨W, hW, B0, N0, Z0⟩ := nk_new w p d
 obtain ⟨Wm, ym, hWm, hym, Bm, HG, Zm⟩ := bk_new W (mgA m) 52
 obtain ⟨W1, y, hW1, hy, B1, HR, Z1⟩ := bk_new Wm znA 34
 have Bm' : Below W.heap.size W Wm := hym ▸ Bm
 have B1' : Below Wm.heap.size Wm W1 := hy ▸ B1
 have HB1 := B0.trans (Bm'.mono B0.size)
 have HN := (N0.later Bm').later B1'
 replace HG := HG.later B1'
 have HB := HB1.trans (B1'.mono HB1.size)
 have hyn := hI_ (show w.heap.size < y ∧ w.heap.size < ym ∧ ym < y by have := Z0.out; have := Zm.out; omega)
 clear B0 N0 B1 Bm Bm' B1' HB1
 unfold ndA at hW
 unfold mgA at hWm
 unfold znA at hW1
 have HM := hM.later HB
 have hHE := hE.later HB
 have hmi64 := hm.i
 have HI64 := hI_ hm.i
 have HJ := hI_ hJ
 have HJC := hI_ (show ∀ w1, Below w.heap.size w w1 → Calls Tryz.prog 102 #[.agg #[.int .u64 p.g.base, .int .u64 p.g.bt, .string p.g.snap, .slice d.e.a p.g.L.length d.e.c], .int .u64 m.i, .int .u64 m.lt, .slice m.at_ m.es.length m.cap] w1 (JoT w1 d.e.a p.g.L (g1, f1, true)) from fun w1 hb => by
  rw [← hJ]
  exact pJoin_any _ _ _ _ _ _ _ _ _ _ _ p.g.L m.es rfl hes hM.ec hM.em hBd.base rfl hm.ec hm.em hm.i w1 (hM.later hb).e (hE.later hb))
 have hl48 : m.es.length ≤ 140737488351232 := by have := hm.es; omega
 obtain ⟨k1, hk1⟩ : ∃ k1 : Nat, (m.i + m.es.length) % 18446744073709551616 = k1 := ⟨_, rfl⟩
 have wln : IntKind.u64.wrap (m.es.length : Int) = (m.es.length : Int) := by rw [IntKind.wrap_u64]; omega
 have wk1 : IntKind.u64.wrap ((m.i : Int) + (m.es.length : Int)) = (k1 : Int) := by rw [IntKind.wrap_u64]; omega
 have HK1 := hI_ hk1
 obtain ⟨cn, hcn⟩ : ∃ cn : Nat, min m.commit k1 = cn := ⟨_, rfl⟩
 obtain ⟨cm, hcm⟩ : ∃ cm : Nat, max p.commit cn = cm := ⟨_, rfl⟩
 have HCN := hI_ (show (if (k1 : Int) < (m.commit : Int) then (k1 : Int) else (m.commit : Int)) = (cn : Int) by rw [← hcn]; exact min_nat m.commit k1)
 have HCX := hI_ (show (if (cn : Int) > (p.commit : Int) then (cn : Int) else (p.commit : Int)) = (cm : Int) by rw [← hcm]; exact max_nat p.commit cn)
 have HCM := hI_ (show max p.commit (min m.commit k1) = cm by rw [hcn, hcm])
 clear hM hE hJ hk1 hcn hcm hHE hmi64 hl48
 go_enter Tryz.func76, Tryz.ntmps76
 go_wp2_with (first
  | (refine lSb rfl _ rfl rfl [.int .u64 p.g.base, .int .u64 p.g.bt, .string p.g.snap, .slice d.e.a p.g.L.length d.e.c] logT HN rfl rfl ?_)
  | (refine lCc rfl _ rfl rfl (ocA rfl) (by assumption) rfl ?_))
 refine (HJC.out _ HB).mono ?_
 rintro e w2 ⟨a1, c1, rfl, hc1, hc2, hE1, hP1, hb⟩
 have HMJ := hI_ (show NdM K w2 { p with g := g1 } { d with e := ⟨a1, c1⟩ } from HM.log hb hE1 hc1 hc2 hP1)
 replace HB := HB.trans (hb.mono HB.size)
 replace HN := HN.later hb
 replace HG := HG.later hb
 replace HR := HR.later hb
 replace HM := HM.later hb
 clear hb hc1 hc2 hE1 hP1
 (try dsimp only)
 obtain ⟨w3, yl, hw3, hyl', B3, HL, Z3⟩ := bk_new w2 #[.int .u64 g1.base, .int .u64 g1.bt, .string g1.snap, .slice a1 g1.L.length c1] 28
 have hyl := hI_ (show w.heap.size < yl ∧ ym < yl ∧ y < yl by have := HN.lt; have := HG.lt; have := HR.lt; omega)
 have B3' : Below w2.heap.size w2 w3 := hyl' ▸ B3
 replace HB := HB.trans (B3'.mono HB.size)
 replace HN := HN.later B3'
 replace HG := HG.later B3'
 replace HR := HR.later B3'
 replace HM := HM.later B3'
 replace HMJ := hI_ (HMJ.out.later B3')
 clear B3 B3'
 have gf : ((f1 : Int) != 0) = true := by simp; omega
 have gf' : ((f1 : Int) == 0) = false := by simp; omega
 go_wp2_with (refine wpList_load_bkg (by rfl) _ rfl rfl nodeT HN rfl ?_)
 refine (pEnd_any p d hBd K _ HM).mono ?_
 rintro e w4 ⟨rfl, hb⟩
 replace HB := HB.trans (hb.mono HB.size)
 replace HN := HN.later hb
 replace HG := HG.later hb
 replace HR := HR.later hb
 replace HL := HL.later hb
 replace HM := HM.later hb
 replace HMJ := hI_ (HMJ.out.later hb)
 clear hb
 have gr : (f1 : Int) ≤ (p.endI : Int) := by omega
 have gc : ¬ (f1 : Int) ≤ (p.commit : Int) := by omega
 have c11 := HN.bx.c 11 _ rfl
 obtain ⟨P, hP⟩ : ∃ P : Pn, P = { p with g := g1, commit := cm } := ⟨_, rfl⟩
 obtain ⟨D, hD⟩ : ∃ D : Ad, D = { d with e := ⟨a1, c1⟩ } := ⟨_, rfl⟩
 have HPE := hI_ hP
 have HDE := hI_ hD
 have HJP := hI_ (show joinP p m = (P, [replyG p m.fr true k1]) by unfold joinP; rw [if_neg (by rw [HJ.out]; rintro (h | h); exact absurd h (by simp); exact hc h.2.2), HJ.out, HK1.out, HCM.out, hP])
 have HRP := hI_ (show replyG p m.fr true k1 = replyG P m.fr true k1 by rw [hP]; rfl)
 rw [HRP.out] at HJP
 clear hP hD
 replace HM := HMJ.out
 clear HMJ
 go_wp2_with (first
  | (refine lBk rfl _ rfl rfl logT HL rfl ?_)
  | (refine wpList_store_sub rfl _ _ rfl rfl rfl logT HN rfl rfl rfl (L' := ndL { p with g := g1 } { d with e := ⟨a1, c1⟩ }) rfl ?_; intro w' hk hg; replace HR := HR.grown hg (by have := hyn.out; omega); replace HG := HG.grown hg (by have := hyn.out; omega); replace HL := HL.grown hg (by have := hyl.out; omega); replace HM := HM.grown hg hK HN.bx.ty bNd; replace HB := bGr HB hg HB.size (Nat.le_refl _); replace HN := hk; clear hk hg)
  | (refine wpList_val rfl (v := .int .u64 cn) (exec_min2 _ _ _ rfl rfl rfl HCN.out) ?_)
  | (refine wpList_val rfl (v := .int .u64 cm) (exec_max2 _ _ _ rfl rfl rfl HCX.out) ?_)
  | (refine lCc rfl _ rfl rfl (ocA rfl) (by assumption) rfl ?_)
  | (refine sCc (v := .int .u64 cm) rfl _ _ rfl rfl rfl ocU HN rfl rfl rfl ?_; intro w' hk hg; replace HR := HR.grown hg (by have := hyn.out; omega); replace HG := HG.grown hg (by have := hyn.out; omega); replace HM := HM.grown hg hK HN.bx.ty bNd; replace HB := bGr HB hg HB.size (Nat.le_refl _); replace HN := hk; clear hk hg; (replace HN : Bk w' w.heap.size 34 (ndL P D) := by rw [HPE.out, HDE.out]; exact HN); (replace HM : NdM K w' P D := by rw [HPE.out, HDE.out]; exact HM.same rfl rfl rfl rfl rfl)))
 replace HR := HR.later ((Below.refl _ _).drew)
 refine wp_region_held_drew (S := fun w' => Bk w' w.heap.size 34 (ndL P D) ∧ Bk w' ym 52 (mgC m) ∧ NdM K w' P D ∧ Below w.heap.size w w') (by kernel_rfl) (⟨HN.later ((Below.refl _ _).drew), HG.later ((Below.refl _ _).drew), HM.later ((Below.refl _ _).drew), HB.drew⟩) (fun HS => ?_)
 refine tkh (i := 0) (v := (.agg (ndL P D).toArray)) rfl ⟨by rfl, fun _ hSw => eLb _ rfl rfl nodeT hSw.1 rfl⟩ HS ?_
 refine tkh (i := 1) (v := (.agg (ndL P D).toArray)) rfl ⟨by rfl, fun _ hSw => eLb _ rfl rfl nodeT hSw.1 rfl⟩ HS ?_
 try simp only [ly, Act.put]
 refine tkp (i := 2) rfl HS ?_
 refine tkh (i := 3) (v := (.int .u64 m.fr)) rfl ⟨by rfl, fun _ hSw => exec_load_c _ rfl rfl ocU hSw.2.1 rfl⟩ HS ?_
 try simp only [ly, Act.put]
 refine tkp (i := 4) rfl HS ?_
 try simp only [ly, Act.put]
 refine onh (r := 5) (by kernel_rfl) rfl (fun KK hK => ?_)
 go_simp
 refine (pReply_any P D m.fr true k1 _).mono ?_
 rintro e w5 ⟨v, O, rfl, hC, hO, hb⟩
 have HC := hC.mono HS.2.2.2.size
 have HO := hI_ hO
 clear hC hO
 replace HR := HR.later hb
 go_wp2_with fail
 refine hK.out _ _ ⟨HS.1.later hb, HS.2.1.later hb, HS.2.2.1.later hb, HS.2.2.2.trans (hb.mono HS.2.2.2.size)⟩ (fun HS => ?_)
 clear hK
 try simp only [ly, Act.put]
 refine onh (r := 6) (by kernel_rfl) rfl (fun KK hK => ?_)
 rw [if_pos (by rfl)]
 refine wSb _ _ rfl rfl (M := ndL P D) rfl nodeT HR rfl rfl rfl ?_
 intro w' hk hg
 have HS9 := And.intro (HS.1.grown hg (by have := hyn.out; omega)) (And.intro (HS.2.1.grown hg (by have := hyn.out; omega)) (And.intro (HS.2.2.1.grown hg (by have := hyn.out; omega) HR.bx.ty bNd) (bGr HS.2.2.2 hg HS.2.2.2.size (by have := hyn.out; omega))))
 have HC := HC.box hg HR.bx.ty boxNm
 replace HR := hk
 clear hk hg
 refine hK.out _ _ HS9 (fun HS => ?_)
 clear HS9
 clear hK
 try simp only [ly, Act.put]
 refine tkp (i := 7) rfl HS ?_
 try simp only [ly, Act.put]
 refine wpAnyH_done (by kernel_rfl) ?_ _
 go_wp2_with fail
 refine bodyPost_ret (v := .tuple #[ndV P D, v]) (by rw [rBt Tryz.results76 _ rfl nodeT HR rfl]; rfl) rfl ?_
 rw [HJP.out]
 exact ⟨D, v, O, rfl, HS.2.2.1, HC, HO.out, HS.2.2.2⟩

theorem pJoin8_2 (p : Pn) (d : Ad) (hBd : Bd p) (m : Mg) (hm : Bm m) (hes : p.g.L.length + m.es.length ≤ 9000000000000) (K : Nat) (w : World) (hK : K ≤ w.heap.size) (hM : NdM K w p d) (hE : Ents w m.at_ m.es) {g1 : Lg} (hJ : joinG p.g m.i m.lt m.es = (g1, 0, true))  :
 Calls Tryz.prog 76 #[ndV p d, mgV m] w (NmP K w (joinP p m)) := by
 obtain ⟨W, hW, B0, N0, Z0⟩ := nk_new w p d
 obtain ⟨Wm, ym, hWm, hym, Bm, HG, Zm⟩ := bk_new W (mgA m) 52
 obtain ⟨W1, y, hW1, hy, B1, HR, Z1⟩ := bk_new Wm znA 34
 have Bm' : Below W.heap.size W Wm := hym ▸ Bm
 have B1' : Below Wm.heap.size Wm W1 := hy ▸ B1
 have HB1 := B0.trans (Bm'.mono B0.size)
 have HN := (N0.later Bm').later B1'
 replace HG := HG.later B1'
 have HB := HB1.trans (B1'.mono HB1.size)
 have hyn := hI_ (show w.heap.size < y ∧ w.heap.size < ym ∧ ym < y by have := Z0.out; have := Zm.out; omega)
 clear B0 N0 B1 Bm Bm' B1' HB1
 unfold ndA at hW
 unfold mgA at hWm
 unfold znA at hW1
 have HM := hM.later HB
 have hHE := hE.later HB
 have hmi64 := hm.i
 have HI64 := hI_ hm.i
 have HJ := hI_ hJ
 have HJC := hI_ (show ∀ w1, Below w.heap.size w w1 → Calls Tryz.prog 102 #[.agg #[.int .u64 p.g.base, .int .u64 p.g.bt, .string p.g.snap, .slice d.e.a p.g.L.length d.e.c], .int .u64 m.i, .int .u64 m.lt, .slice m.at_ m.es.length m.cap] w1 (JoT w1 d.e.a p.g.L (g1, 0, true)) from fun w1 hb => by
  rw [← hJ]
  exact pJoin_any _ _ _ _ _ _ _ _ _ _ _ p.g.L m.es rfl hes hM.ec hM.em hBd.base rfl hm.ec hm.em hm.i w1 (hM.later hb).e (hE.later hb))
 have hl48 : m.es.length ≤ 140737488351232 := by have := hm.es; omega
 obtain ⟨k1, hk1⟩ : ∃ k1 : Nat, (m.i + m.es.length) % 18446744073709551616 = k1 := ⟨_, rfl⟩
 have wln : IntKind.u64.wrap (m.es.length : Int) = (m.es.length : Int) := by rw [IntKind.wrap_u64]; omega
 have wk1 : IntKind.u64.wrap ((m.i : Int) + (m.es.length : Int)) = (k1 : Int) := by rw [IntKind.wrap_u64]; omega
 have HK1 := hI_ hk1
 obtain ⟨cn, hcn⟩ : ∃ cn : Nat, min m.commit k1 = cn := ⟨_, rfl⟩
 obtain ⟨cm, hcm⟩ : ∃ cm : Nat, max p.commit cn = cm := ⟨_, rfl⟩
 have HCN := hI_ (show (if (k1 : Int) < (m.commit : Int) then (k1 : Int) else (m.commit : Int)) = (cn : Int) by rw [← hcn]; exact min_nat m.commit k1)
 have HCX := hI_ (show (if (cn : Int) > (p.commit : Int) then (cn : Int) else (p.commit : Int)) = (cm : Int) by rw [← hcm]; exact max_nat p.commit cn)
 have HCM := hI_ (show max p.commit (min m.commit k1) = cm by rw [hcn, hcm])
 clear hM hE hJ hk1 hcn hcm hHE hmi64 hl48
 go_enter Tryz.func76, Tryz.ntmps76
 go_wp2_with (first
  | (refine lSb rfl _ rfl rfl [.int .u64 p.g.base, .int .u64 p.g.bt, .string p.g.snap, .slice d.e.a p.g.L.length d.e.c] logT HN rfl rfl ?_)
  | (refine lCc rfl _ rfl rfl (ocA rfl) (by assumption) rfl ?_))
 refine (HJC.out _ HB).mono ?_
 rintro e w2 ⟨a1, c1, rfl, hc1, hc2, hE1, hP1, hb⟩
 have HMJ := hI_ (show NdM K w2 { p with g := g1 } { d with e := ⟨a1, c1⟩ } from HM.log hb hE1 hc1 hc2 hP1)
 replace HB := HB.trans (hb.mono HB.size)
 replace HN := HN.later hb
 replace HG := HG.later hb
 replace HR := HR.later hb
 replace HM := HM.later hb
 clear hb hc1 hc2 hE1 hP1
 (try dsimp only)
 obtain ⟨w3, yl, hw3, hyl', B3, HL, Z3⟩ := bk_new w2 #[.int .u64 g1.base, .int .u64 g1.bt, .string g1.snap, .slice a1 g1.L.length c1] 28
 have hyl := hI_ (show w.heap.size < yl ∧ ym < yl ∧ y < yl by have := HN.lt; have := HG.lt; have := HR.lt; omega)
 have B3' : Below w2.heap.size w2 w3 := hyl' ▸ B3
 replace HB := HB.trans (B3'.mono HB.size)
 replace HN := HN.later B3'
 replace HG := HG.later B3'
 replace HR := HR.later B3'
 replace HM := HM.later B3'
 replace HMJ := hI_ (HMJ.out.later B3')
 clear B3 B3'
 obtain ⟨P, hP⟩ : ∃ P : Pn, P = { p with g := g1, commit := cm } := ⟨_, rfl⟩
 obtain ⟨D, hD⟩ : ∃ D : Ad, D = { d with e := ⟨a1, c1⟩ } := ⟨_, rfl⟩
 have HPE := hI_ hP
 have HDE := hI_ hD
 have HJP := hI_ (show joinP p m = (P, [replyG p m.fr true k1]) by unfold joinP; rw [if_neg (by rw [HJ.out]; rintro (h | h); exact absurd h (by simp); exact h.1 rfl), HJ.out, HK1.out, HCM.out, hP])
 have HRP := hI_ (show replyG p m.fr true k1 = replyG P m.fr true k1 by rw [hP]; rfl)
 rw [HRP.out] at HJP
 clear hP hD
 replace HM := HMJ.out
 clear HMJ
 go_wp2_with (first
  | (refine lBk rfl _ rfl rfl logT HL rfl ?_)
  | (refine wpList_store_sub rfl _ _ rfl rfl rfl logT HN rfl rfl rfl (L' := ndL { p with g := g1 } { d with e := ⟨a1, c1⟩ }) rfl ?_; intro w' hk hg; replace HR := HR.grown hg (by have := hyn.out; omega); replace HG := HG.grown hg (by have := hyn.out; omega); replace HL := HL.grown hg (by have := hyl.out; omega); replace HM := HM.grown hg hK HN.bx.ty bNd; replace HB := bGr HB hg HB.size (Nat.le_refl _); replace HN := hk; clear hk hg)
  | (refine wpList_val rfl (v := .int .u64 cn) (exec_min2 _ _ _ rfl rfl rfl HCN.out) ?_)
  | (refine wpList_val rfl (v := .int .u64 cm) (exec_max2 _ _ _ rfl rfl rfl HCX.out) ?_)
  | (refine lCc rfl _ rfl rfl (ocA rfl) (by assumption) rfl ?_)
  | (refine sCc (v := .int .u64 cm) rfl _ _ rfl rfl rfl ocU HN rfl rfl rfl ?_; intro w' hk hg; replace HR := HR.grown hg (by have := hyn.out; omega); replace HG := HG.grown hg (by have := hyn.out; omega); replace HM := HM.grown hg hK HN.bx.ty bNd; replace HB := bGr HB hg HB.size (Nat.le_refl _); replace HN := hk; clear hk hg; (replace HN : Bk w' w.heap.size 34 (ndL P D) := by rw [HPE.out, HDE.out]; exact HN); (replace HM : NdM K w' P D := by rw [HPE.out, HDE.out]; exact HM.same rfl rfl rfl rfl rfl)))
 replace HR := HR.later ((Below.refl _ _).drew)
 refine wp_region_held_drew (S := fun w' => Bk w' w.heap.size 34 (ndL P D) ∧ Bk w' ym 52 (mgC m) ∧ NdM K w' P D ∧ Below w.heap.size w w') (by kernel_rfl) (⟨HN.later ((Below.refl _ _).drew), HG.later ((Below.refl _ _).drew), HM.later ((Below.refl _ _).drew), HB.drew⟩) (fun HS => ?_)
 refine tkh (i := 0) (v := (.agg (ndL P D).toArray)) rfl ⟨by rfl, fun _ hSw => eLb _ rfl rfl nodeT hSw.1 rfl⟩ HS ?_
 refine tkh (i := 1) (v := (.agg (ndL P D).toArray)) rfl ⟨by rfl, fun _ hSw => eLb _ rfl rfl nodeT hSw.1 rfl⟩ HS ?_
 try simp only [ly, Act.put]
 refine tkp (i := 2) rfl HS ?_
 refine tkh (i := 3) (v := (.int .u64 m.fr)) rfl ⟨by rfl, fun _ hSw => exec_load_c _ rfl rfl ocU hSw.2.1 rfl⟩ HS ?_
 try simp only [ly, Act.put]
 refine tkp (i := 4) rfl HS ?_
 try simp only [ly, Act.put]
 refine onh (r := 5) (by kernel_rfl) rfl (fun KK hK => ?_)
 go_simp
 refine (pReply_any P D m.fr true k1 _).mono ?_
 rintro e w5 ⟨v, O, rfl, hC, hO, hb⟩
 have HC := hC.mono HS.2.2.2.size
 have HO := hI_ hO
 clear hC hO
 replace HR := HR.later hb
 go_wp2_with fail
 refine hK.out _ _ ⟨HS.1.later hb, HS.2.1.later hb, HS.2.2.1.later hb, HS.2.2.2.trans (hb.mono HS.2.2.2.size)⟩ (fun HS => ?_)
 clear hK
 try simp only [ly, Act.put]
 refine onh (r := 6) (by kernel_rfl) rfl (fun KK hK => ?_)
 rw [if_pos (by rfl)]
 refine wSb _ _ rfl rfl (M := ndL P D) rfl nodeT HR rfl rfl rfl ?_
 intro w' hk hg
 have HS9 := And.intro (HS.1.grown hg (by have := hyn.out; omega)) (And.intro (HS.2.1.grown hg (by have := hyn.out; omega)) (And.intro (HS.2.2.1.grown hg (by have := hyn.out; omega) HR.bx.ty bNd) (bGr HS.2.2.2 hg HS.2.2.2.size (by have := hyn.out; omega))))
 have HC := HC.box hg HR.bx.ty boxNm
 replace HR := hk
 clear hk hg
 refine hK.out _ _ HS9 (fun HS => ?_)
 clear HS9
 clear hK
 try simp only [ly, Act.put]
 refine tkp (i := 7) rfl HS ?_
 try simp only [ly, Act.put]
 refine wpAnyH_done (by kernel_rfl) ?_ _
 go_wp2_with fail
 refine bodyPost_ret (v := .tuple #[ndV P D, v]) (by rw [rBt Tryz.results76 _ rfl nodeT HR rfl]; rfl) rfl ?_
 rw [HJP.out]
 exact ⟨D, v, O, rfl, HS.2.2.1, HC, HO.out, HS.2.2.2⟩

theorem pJoin8_any (p : Pn) (d : Ad) (hBd : Bd p) (m : Mg) (hm : Bm m) (hes : p.g.L.length + m.es.length ≤ 9000000000000) (K : Nat) (w : World) (hK : K ≤ w.heap.size) (hM : NdM K w p d) (hE : Ents w m.at_ m.es) :
 Calls Tryz.prog 76 #[ndV p d, mgV m] w (NmP K w (joinP p m)) := by
 obtain ⟨g1, f1, ok1, hJ⟩ : ∃ g1 f1 ok1, joinG p.g m.i m.lt m.es = (g1, f1, ok1) := ⟨_, _, _, rfl⟩
 by_cases hf : f1 = 0
 · subst hf
   cases ok1
   · exact pJoin8_1 p d hBd m hm hes K w hK hM hE hJ
   · exact pJoin8_2 p d hBd m hm hes K w hK hM hE hJ
 · by_cases hr : f1 ≤ p.endI
   · cases ok1
     · exact pJoin8_3 p d hBd m hm hes K w hK hM hE hJ hf hr
     · by_cases hc : f1 ≤ p.commit
       · exact pJoin8_5 p d hBd m hm hes K w hK hM hE hJ hf hr hc
       · exact pJoin8_6 p d hBd m hm hes K w hK hM hE hJ hf hr hc
   · cases ok1
     · exact pJoin8_4 p d hBd m hm hes K w hK hM hE hJ hf hr
     · exact pJoin8_7 p d hBd m hm hes K w hK hM hE hJ hf hr
end Go.Proofs.YtdcpiaoadbbdoaaGreat
