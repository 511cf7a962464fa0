/- A leader's entries are joined: refused, the first way. -/
import Derived.Test.YtdcpiaoadbbdoaaGreatBulk
import Derived.Test.YtdcpiaoadbbdoaaGreatQmb
import Derived.Test.YtdcpiaoadbbdoaaGreatQrw
set_option maxRecDepth 100000
set_option maxHeartbeats 16000000
namespace Go.Proofs.YtdcpiaoadbbdoaaGreat
open Go.RowKit

theorem pJoin8_1 (p : Pn) (d : Ad) (hBd : Bd p) (m : Mg) (hm : Bm m) (hes : p.g.L.length + m.es.length ≤ 9000000000000) (K : Nat) (w : World) (hK : K ≤ w.heap.size) (hM : NdM K w p d) (hE : Ents w m.at_ m.es) {g1 : Lg} (hJ : joinG p.g m.i m.lt m.es = (g1, 0, false))  :
 Calls Tryz.prog 76 #[ndV p d, mgV m] w (NmP K w (joinP p m)) := by
 obtain ⟨W, hW, B0, N0, Z0⟩ := nk_new w p d
 obtain ⟨Wm, ym, hWm, hym, Bm, HG, Zm⟩ := bk_new W (mgA m) 52
 obtain ⟨W1, y, hW1, hy, B1, HR, Z1⟩ := bk_new Wm znA 34
 have Bm' : Below W.heap.size W Wm := hym ▸ Bm
 have B1' : Below Wm.heap.size Wm W1 := hy ▸ B1
 have HB1 := B0.trans (Bm'.mono B0.size)
 have HN := (N0.later Bm').later B1'
 replace HG := HG.later B1'
 have HB := HB1.trans (B1'.mono HB1.size)
 have hyn := hI_ (show w.heap.size < y ∧ w.heap.size < ym ∧ ym < y by have := Z0.out; have := Zm.out; omega)
 clear B0 N0 B1 Bm Bm' B1' HB1
 unfold ndA at hW
 unfold mgA at hWm
 unfold znA at hW1
 have HM := hM.later HB
 have hHE := hE.later HB
 have hmi64 := hm.i
 have HI64 := hI_ hm.i
 have HJ := hI_ hJ
 have HJC := hI_ (show ∀ w1, Below w.heap.size w w1 → Calls Tryz.prog 102 #[.agg #[.int .u64 p.g.base, .int .u64 p.g.bt, .string p.g.snap, .slice d.e.a p.g.L.length d.e.c], .int .u64 m.i, .int .u64 m.lt, .slice m.at_ m.es.length m.cap] w1 (JoT w1 d.e.a p.g.L (g1, 0, false)) from fun w1 hb => by
  rw [← hJ]
  exact pJoin_any _ _ _ _ _ _ _ _ _ _ _ p.g.L m.es rfl hes hM.ec hM.em hBd.base rfl hm.ec hm.em hm.i w1 (hM.later hb).e (hE.later hb))
 have hl48 : m.es.length ≤ 140737488351232 := by have := hm.es; omega
 obtain ⟨k1, hk1⟩ : ∃ k1 : Nat, (m.i + m.es.length) % 18446744073709551616 = k1 := ⟨_, rfl⟩
 have wln : IntKind.u64.wrap (m.es.length : Int) = (m.es.length : Int) := by rw [IntKind.wrap_u64]; omega
 have wk1 : IntKind.u64.wrap ((m.i : Int) + (m.es.length : Int)) = (k1 : Int) := by rw [IntKind.wrap_u64]; omega
 have HK1 := hI_ hk1
 obtain ⟨cn, hcn⟩ : ∃ cn : Nat, min m.commit k1 = cn := ⟨_, rfl⟩
 obtain ⟨cm, hcm⟩ : ∃ cm : Nat, max p.commit cn = cm := ⟨_, rfl⟩
 have HCN := hI_ (show (if (k1 : Int) < (m.commit : Int) then (k1 : Int) else (m.commit : Int)) = (cn : Int) by rw [← hcn]; exact min_nat m.commit k1)
 have HCX := hI_ (show (if (cn : Int) > (p.commit : Int) then (cn : Int) else (p.commit : Int)) = (cm : Int) by rw [← hcm]; exact max_nat p.commit cn)
 have HCM := hI_ (show max p.commit (min m.commit k1) = cm by rw [hcn, hcm])
 clear hM hE hJ hk1 hcn hcm hHE hmi64 hl48
 go_enter Tryz.func76, Tryz.ntmps76
 go_wp2_with (first
  | (refine lSb rfl _ rfl rfl [.int .u64 p.g.base, .int .u64 p.g.bt, .string p.g.snap, .slice d.e.a p.g.L.length d.e.c] logT HN rfl rfl ?_)
  | (refine lCc rfl _ rfl rfl (ocA rfl) (by assumption) rfl ?_))
 refine (HJC.out _ HB).mono ?_
 rintro e w2 ⟨a1, c1, rfl, hc1, hc2, hE1, hP1, hb⟩
 have HMJ := hI_ (show NdM K w2 { p with g := g1 } { d with e := ⟨a1, c1⟩ } from HM.log hb hE1 hc1 hc2 hP1)
 replace HB := HB.trans (hb.mono HB.size)
 replace HN := HN.later hb
 replace HG := HG.later hb
 replace HR := HR.later hb
 replace HM := HM.later hb
 clear hb hc1 hc2 hE1 hP1
 (try dsimp only)
 obtain ⟨w3, yl, hw3, hyl', B3, HL, Z3⟩ := bk_new w2 #[.int .u64 g1.base, .int .u64 g1.bt, .string g1.snap, .slice a1 g1.L.length c1] 28
 have hyl := hI_ (show w.heap.size < yl ∧ ym < yl ∧ y < yl by have := HN.lt; have := HG.lt; have := HR.lt; omega)
 have B3' : Below w2.heap.size w2 w3 := hyl' ▸ B3
 replace HB := HB.trans (B3'.mono HB.size)
 replace HN := HN.later B3'
 replace HG := HG.later B3'
 replace HR := HR.later B3'
 replace HM := HM.later B3'
 replace HMJ := hI_ (HMJ.out.later B3')
 clear B3 B3'
 go_wp2_with fail
 obtain ⟨mx, hmx⟩ : ∃ mx : Nat, max m.i 1 = mx := ⟨_, rfl⟩
 obtain ⟨my, hmy⟩ : ∃ my : Nat, mx - 1 = my := ⟨_, rfl⟩
 obtain ⟨mi, hmi⟩ : ∃ mi : Nat, min p.endI my = mi := ⟨_, rfl⟩
 have HMX := hI_ (show (if (1 : Int) > (m.i : Int) then (1 : Int) else (m.i : Int)) = (mx : Int) by rw [← hmx]; exact max_nat m.i 1)
 have wmy : IntKind.u64.wrap ((mx : Int) - 1) = (my : Int) := by have := HI64.out; rw [IntKind.wrap_u64]; omega
 have HMI := hI_ (show (if (my : Int) < (p.endI : Int) then (my : Int) else (p.endI : Int)) = (mi : Int) by rw [← hmi]; exact min_nat p.endI my)
 have HJP := hI_ (show joinP p m = (p, [replyG p m.fr false mi]) by unfold joinP; rw [if_pos (by rw [HJ.out]; exact .inl rfl), hmx, hmy, hmi])
 clear hmx hmy hmi HL HMJ
 replace HR := HR.later ((Below.refl _ _).drew)
 refine wp_region_held_drew (S := fun w' => Bk w' w.heap.size 34 (ndL p d) ∧ Bk w' ym 52 (mgC m) ∧ NdM K w' p d ∧ Below w.heap.size w w') (by kernel_rfl) (⟨HN.later ((Below.refl _ _).drew), HG.later ((Below.refl _ _).drew), HM.later ((Below.refl _ _).drew), HB.drew⟩) (fun HS => ?_)
 refine tkh (i := 0) (v := (.agg (ndL p d).toArray)) rfl ⟨by rfl, fun _ hSw => eLb _ rfl rfl nodeT hSw.1 rfl⟩ HS ?_
 refine tkh (i := 1) (v := (.agg (ndL p d).toArray)) rfl ⟨by rfl, fun _ hSw => eLb _ rfl rfl nodeT hSw.1 rfl⟩ HS ?_
 try simp only [ly, Act.put]
 refine tkp (i := 2) rfl HS ?_
 refine tkh (i := 3) (v := (.int .u64 m.fr)) rfl ⟨by rfl, fun _ hSw => exec_load_c _ rfl rfl ocU hSw.2.1 rfl⟩ HS ?_
 refine tkh (i := 4) (v := (.agg (ndL p d).toArray)) rfl ⟨by rfl, fun _ hSw => eLb _ rfl rfl nodeT hSw.1 rfl⟩ HS ?_
 try simp only [ly, Act.put]
 refine tkp (i := 6) rfl HS ?_
 refine tkh (i := 7) (v := (.int .u64 m.i)) rfl ⟨by rfl, fun _ hSw => exec_load_c _ rfl rfl ocU hSw.2.1 rfl⟩ HS ?_
 refine tkh (i := 8) (v := (.int .u64 mx)) rfl ⟨by rfl, fun _ hSw => exec_max2 _ _ _ rfl rfl rfl HMX.out⟩ HS ?_
 refine tkh (i := 9) (v := (.int .u64 my)) rfl ⟨by rfl, ?h9⟩ HS ?_
 case h9 => (intro _ hSw; go_simp; (try with_reducible rfl))
 try simp only [ly, Act.put]
 refine onh (r := 5) (by kernel_rfl) rfl (fun KK hK => ?_)
 go_simp
 refine (pEnd_any p d hBd K _ HS.2.2.1).mono ?_
 rintro e w4 ⟨rfl, hb⟩
 replace HR := HR.later hb
 go_wp2_with fail
 refine hK.out _ _ ⟨HS.1.later hb, HS.2.1.later hb, HS.2.2.1.later hb, HS.2.2.2.trans (hb.mono HS.2.2.2.size)⟩ (fun HS => ?_)
 clear hK
 refine tkh (i := 10) (v := (.int .u64 mi)) rfl ⟨by rfl, fun _ hSw => exec_min2 _ _ _ rfl rfl rfl HMI.out⟩ HS ?_
 try simp only [ly, Act.put]
 refine onh (r := 11) (by kernel_rfl) rfl (fun KK hK => ?_)
 go_simp
 refine (pReply_any p d m.fr false mi _).mono ?_
 rintro e w5 ⟨v, O, rfl, hC, hO, hb⟩
 have HC := hC.mono HS.2.2.2.size
 have HO := hI_ hO
 clear hC hO
 replace HR := HR.later hb
 go_wp2_with fail
 refine hK.out _ _ ⟨HS.1.later hb, HS.2.1.later hb, HS.2.2.1.later hb, HS.2.2.2.trans (hb.mono HS.2.2.2.size)⟩ (fun HS => ?_)
 clear hK
 try simp only [ly, Act.put]
 refine onh (r := 12) (by kernel_rfl) rfl (fun KK hK => ?_)
 rw [if_pos (by rfl)]
 refine wSb _ _ rfl rfl (M := ndL p d) rfl nodeT HR rfl rfl rfl ?_
 intro w' hk hg
 have HS9 := And.intro (HS.1.grown hg (by have := hyn.out; omega)) (And.intro (HS.2.1.grown hg (by have := hyn.out; omega)) (And.intro (HS.2.2.1.grown hg (by have := hyn.out; omega) HR.bx.ty bNd) (bGr HS.2.2.2 hg HS.2.2.2.size (by have := hyn.out; omega))))
 have HC := HC.box hg HR.bx.ty boxNm
 replace HR := hk
 clear hk hg
 refine hK.out _ _ HS9 (fun HS => ?_)
 clear HS9
 clear hK
 try simp only [ly, Act.put]
 refine tkp (i := 13) rfl HS ?_
 try simp only [ly, Act.put]
 refine wpAnyH_done (by kernel_rfl) ?_ _
 go_wp2_with fail
 refine bodyPost_ret (v := .tuple #[ndV p d, v]) (by rw [rBt Tryz.results76 _ rfl nodeT HR rfl]; rfl) rfl ?_
 rw [HJP.out]
 exact ⟨d, v, O, rfl, HS.2.2.1, HC, HO.out, HS.2.2.2⟩
theorem pJoin8_3 (p : Pn) (d : Ad) (hBd : Bd p) (m : Mg) (hm : Bm m) (hes : p.g.L.length + m.es.length ≤ 9000000000000) (K : Nat) (w : World) (hK : K ≤ w.heap.size) (hM : NdM K w p d) (hE : Ents w m.at_ m.es) {g1 : Lg} {f1 : Nat} (hJ : joinG p.g m.i m.lt m.es = (g1, f1, false)) (hf : ¬ f1 = 0) (hr : f1 ≤ p.endI) :
 Calls Tryz.prog 76 #[ndV p d, mgV m] w (NmP K w (joinP p m)) := by
 obtain ⟨W, hW, B0, N0, Z0⟩ := nk_new w p d
 obtain ⟨Wm, ym, hWm, hym, Bm, HG, Zm⟩ := bk_new W (mgA m) 52
 obtain ⟨W1, y, hW1, hy, B1, HR, Z1⟩ := bk_new Wm znA 34
 have Bm' : Below W.heap.size W Wm := hym ▸ Bm
 have B1' : Below Wm.heap.size Wm W1 := hy ▸ B1
 have HB1 := B0.trans (Bm'.mono B0.size)
 have HN := (N0.later Bm').later B1'
 replace HG := HG.later B1'
 have HB := HB1.trans (B1'.mono HB1.size)
 have hyn := hI_ (show w.heap.size < y ∧ w.heap.size < ym ∧ ym < y by have := Z0.out; have := Zm.out; omega)
 clear B0 N0 B1 Bm Bm' B1' HB1
 unfold ndA at hW
 unfold mgA at hWm
 unfold znA at hW1
 have HM := hM.later HB
 have hHE := hE.later HB
 have hmi64 := hm.i
 have HI64 := hI_ hm.i
 have HJ := hI_ hJ
 have HJC := hI_ (show ∀ w1, Below w.heap.size w w1 → Calls Tryz.prog 102 #[.agg #[.int .u64 p.g.base, .int .u64 p.g.bt, .string p.g.snap, .slice d.e.a p.g.L.length d.e.c], .int .u64 m.i, .int .u64 m.lt, .slice m.at_ m.es.length m.cap] w1 (JoT w1 d.e.a p.g.L (g1, f1, false)) from fun w1 hb => by
  rw [← hJ]
  exact pJoin_any _ _ _ _ _ _ _ _ _ _ _ p.g.L m.es rfl hes hM.ec hM.em hBd.base rfl hm.ec hm.em hm.i w1 (hM.later hb).e (hE.later hb))
 have hl48 : m.es.length ≤ 140737488351232 := by have := hm.es; omega
 obtain ⟨k1, hk1⟩ : ∃ k1 : Nat, (m.i + m.es.length) % 18446744073709551616 = k1 := ⟨_, rfl⟩
 have wln : IntKind.u64.wrap (m.es.length : Int) = (m.es.length : Int) := by rw [IntKind.wrap_u64]; omega
 have wk1 : IntKind.u64.wrap ((m.i : Int) + (m.es.length : Int)) = (k1 : Int) := by rw [IntKind.wrap_u64]; omega
 have HK1 := hI_ hk1
 obtain ⟨cn, hcn⟩ : ∃ cn : Nat, min m.commit k1 = cn := ⟨_, rfl⟩
 obtain ⟨cm, hcm⟩ : ∃ cm : Nat, max p.commit cn = cm := ⟨_, rfl⟩
 have HCN := hI_ (show (if (k1 : Int) < (m.commit : Int) then (k1 : Int) else (m.commit : Int)) = (cn : Int) by rw [← hcn]; exact min_nat m.commit k1)
 have HCX := hI_ (show (if (cn : Int) > (p.commit : Int) then (cn : Int) else (p.commit : Int)) = (cm : Int) by rw [← hcm]; exact max_nat p.commit cn)
 have HCM := hI_ (show max p.commit (min m.commit k1) = cm by rw [hcn, hcm])
 clear hM hE hJ hk1 hcn hcm hHE hmi64 hl48
 go_enter Tryz.func76, Tryz.ntmps76
 go_wp2_with (first
  | (refine lSb rfl _ rfl rfl [.int .u64 p.g.base, .int .u64 p.g.bt, .string p.g.snap, .slice d.e.a p.g.L.length d.e.c] logT HN rfl rfl ?_)
  | (refine lCc rfl _ rfl rfl (ocA rfl) (by assumption) rfl ?_))
 refine (HJC.out _ HB).mono ?_
 rintro e w2 ⟨a1, c1, rfl, hc1, hc2, hE1, hP1, hb⟩
 have HMJ := hI_ (show NdM K w2 { p with g := g1 } { d with e := ⟨a1, c1⟩ } from HM.log hb hE1 hc1 hc2 hP1)
 replace HB := HB.trans (hb.mono HB.size)
 replace HN := HN.later hb
 replace HG := HG.later hb
 replace HR := HR.later hb
 replace HM := HM.later hb
 clear hb hc1 hc2 hE1 hP1
 (try dsimp only)
 obtain ⟨w3, yl, hw3, hyl', B3, HL, Z3⟩ := bk_new w2 #[.int .u64 g1.base, .int .u64 g1.bt, .string g1.snap, .slice a1 g1.L.length c1] 28
 have hyl := hI_ (show w.heap.size < yl ∧ ym < yl ∧ y < yl by have := HN.lt; have := HG.lt; have := HR.lt; omega)
 have B3' : Below w2.heap.size w2 w3 := hyl' ▸ B3
 replace HB := HB.trans (B3'.mono HB.size)
 replace HN := HN.later B3'
 replace HG := HG.later B3'
 replace HR := HR.later B3'
 replace HM := HM.later B3'
 replace HMJ := hI_ (HMJ.out.later B3')
 clear B3 B3'
 have gf : ((f1 : Int) != 0) = true := by simp; omega
 have gf' : ((f1 : Int) == 0) = false := by simp; omega
 go_wp2_with (refine wpList_load_bkg (by rfl) _ rfl rfl nodeT HN rfl ?_)
 refine (pEnd_any p d hBd K _ HM).mono ?_
 rintro e w4 ⟨rfl, hb⟩
 replace HB := HB.trans (hb.mono HB.size)
 replace HN := HN.later hb
 replace HG := HG.later hb
 replace HR := HR.later hb
 replace HL := HL.later hb
 replace HM := HM.later hb
 replace HMJ := hI_ (HMJ.out.later hb)
 clear hb
 have gr : (f1 : Int) ≤ (p.endI : Int) := by omega
 go_wp2_with fail
 obtain ⟨mx, hmx⟩ : ∃ mx : Nat, max m.i 1 = mx := ⟨_, rfl⟩
 obtain ⟨my, hmy⟩ : ∃ my : Nat, mx - 1 = my := ⟨_, rfl⟩
 obtain ⟨mi, hmi⟩ : ∃ mi : Nat, min p.endI my = mi := ⟨_, rfl⟩
 have HMX := hI_ (show (if (1 : Int) > (m.i : Int) then (1 : Int) else (m.i : Int)) = (mx : Int) by rw [← hmx]; exact max_nat m.i 1)
 have wmy : IntKind.u64.wrap ((mx : Int) - 1) = (my : Int) := by have := HI64.out; rw [IntKind.wrap_u64]; omega
 have HMI := hI_ (show (if (my : Int) < (p.endI : Int) then (my : Int) else (p.endI : Int)) = (mi : Int) by rw [← hmi]; exact min_nat p.endI my)
 have HJP := hI_ (show joinP p m = (p, [replyG p m.fr false mi]) by unfold joinP; rw [if_pos (by rw [HJ.out]; exact .inl rfl), hmx, hmy, hmi])
 clear hmx hmy hmi HL HMJ
 replace HR := HR.later ((Below.refl _ _).drew)
 refine wp_region_held_drew (S := fun w' => Bk w' w.heap.size 34 (ndL p d) ∧ Bk w' ym 52 (mgC m) ∧ NdM K w' p d ∧ Below w.heap.size w w') (by kernel_rfl) (⟨HN.later ((Below.refl _ _).drew), HG.later ((Below.refl _ _).drew), HM.later ((Below.refl _ _).drew), HB.drew⟩) (fun HS => ?_)
 refine tkh (i := 0) (v := (.agg (ndL p d).toArray)) rfl ⟨by rfl, fun _ hSw => eLb _ rfl rfl nodeT hSw.1 rfl⟩ HS ?_
 refine tkh (i := 1) (v := (.agg (ndL p d).toArray)) rfl ⟨by rfl, fun _ hSw => eLb _ rfl rfl nodeT hSw.1 rfl⟩ HS ?_
 try simp only [ly, Act.put]
 refine tkp (i := 2) rfl HS ?_
 refine tkh (i := 3) (v := (.int .u64 m.fr)) rfl ⟨by rfl, fun _ hSw => exec_load_c _ rfl rfl ocU hSw.2.1 rfl⟩ HS ?_
 refine tkh (i := 4) (v := (.agg (ndL p d).toArray)) rfl ⟨by rfl, fun _ hSw => eLb _ rfl rfl nodeT hSw.1 rfl⟩ HS ?_
 try simp only [ly, Act.put]
 refine tkp (i := 6) rfl HS ?_
 refine tkh (i := 7) (v := (.int .u64 m.i)) rfl ⟨by rfl, fun _ hSw => exec_load_c _ rfl rfl ocU hSw.2.1 rfl⟩ HS ?_
 refine tkh (i := 8) (v := (.int .u64 mx)) rfl ⟨by rfl, fun _ hSw => exec_max2 _ _ _ rfl rfl rfl HMX.out⟩ HS ?_
 refine tkh (i := 9) (v := (.int .u64 my)) rfl ⟨by rfl, ?h9⟩ HS ?_
 case h9 => (intro _ hSw; go_simp; (try with_reducible rfl))
 try simp only [ly, Act.put]
 refine onh (r := 5) (by kernel_rfl) rfl (fun KK hK => ?_)
 go_simp
 refine (pEnd_any p d hBd K _ HS.2.2.1).mono ?_
 rintro e w4 ⟨rfl, hb⟩
 replace HR := HR.later hb
 go_wp2_with fail
 refine hK.out _ _ ⟨HS.1.later hb, HS.2.1.later hb, HS.2.2.1.later hb, HS.2.2.2.trans (hb.mono HS.2.2.2.size)⟩ (fun HS => ?_)
 clear hK
 refine tkh (i := 10) (v := (.int .u64 mi)) rfl ⟨by rfl, fun _ hSw => exec_min2 _ _ _ rfl rfl rfl HMI.out⟩ HS ?_
 try simp only [ly, Act.put]
 refine onh (r := 11) (by kernel_rfl) rfl (fun KK hK => ?_)
 go_simp
 refine (pReply_any p d m.fr false mi _).mono ?_
 rintro e w5 ⟨v, O, rfl, hC, hO, hb⟩
 have HC := hC.mono HS.2.2.2.size
 have HO := hI_ hO
 clear hC hO
 replace HR := HR.later hb
 go_wp2_with fail
 refine hK.out _ _ ⟨HS.1.later hb, HS.2.1.later hb, HS.2.2.1.later hb, HS.2.2.2.trans (hb.mono HS.2.2.2.size)⟩ (fun HS => ?_)
 clear hK
 try simp only [ly, Act.put]
 refine onh (r := 12) (by kernel_rfl) rfl (fun KK hK => ?_)
 rw [if_pos (by rfl)]
 refine wSb _ _ rfl rfl (M := ndL p d) rfl nodeT HR rfl rfl rfl ?_
 intro w' hk hg
 have HS9 := And.intro (HS.1.grown hg (by have := hyn.out; omega)) (And.intro (HS.2.1.grown hg (by have := hyn.out; omega)) (And.intro (HS.2.2.1.grown hg (by have := hyn.out; omega) HR.bx.ty bNd) (bGr HS.2.2.2 hg HS.2.2.2.size (by have := hyn.out; omega))))
 have HC := HC.box hg HR.bx.ty boxNm
 replace HR := hk
 clear hk hg
 refine hK.out _ _ HS9 (fun HS => ?_)
 clear HS9
 clear hK
 try simp only [ly, Act.put]
 refine tkp (i := 13) rfl HS ?_
 try simp only [ly, Act.put]
 refine wpAnyH_done (by kernel_rfl) ?_ _
 go_wp2_with fail
 refine bodyPost_ret (v := .tuple #[ndV p d, v]) (by rw [rBt Tryz.results76 _ rfl nodeT HR rfl]; rfl) rfl ?_
 rw [HJP.out]
 exact ⟨d, v, O, rfl, HS.2.2.1, HC, HO.out, HS.2.2.2⟩
end Go.Proofs.YtdcpiaoadbbdoaaGreat
