/- A leader commits what a majority has. -/
import Derived.Test.YtdcpiaoadbbdoaaGreatDoorRb
import Derived.Test.YtdcpiaoadbbdoaaGreatDoorQse
set_option maxRecDepth 100000
set_option maxHeartbeats 16000000
namespace Go.Proofs.YtdcpiaoadbbdoaaGreatDoor
open Go.RowKit

theorem pCommit_any (p : Pn) (d : Ad) (hBd : Bd p) (K : Nat) (w : World) (hM : NdM K w p d) :
 Calls Tryz.prog 79 #[ndV p d] w (NvP K w (commitP p)) := by
 obtain ⟨W, hW, B0, N0, Z0⟩ := nk_new w p d
 obtain ⟨W1, y, hW1, hy, B1, HR, Z1⟩ := bk_new W znA 34
 have HN := N0.later (hy ▸ B1)
 have HB := B0.trans (B1.mono (by have := Z0.out; omega))
 have hyn := hI_ (show w.heap.size < y by have := Z0.out; omega)
 clear B0 N0 B1
 unfold ndA at hW
 unfold znA at hW1
 have hMM := hI_ hM
 have hmay := conf_may hBd.may
 obtain ⟨⟨hv0, hv7, hl3⟩, _⟩ := mayB_iff.1 hmay
 have hml := hBd.mat
 have hel := hBd.ents
 have hba := hBd.base
 have hk64 : p.agr < 18446744073709551616 := agr_lt hBd
 have HAG := hI_ (show agL (mks p.conf.V p.mat) = p.agr from rfl)
 have HTA := hI_ (show ∀ w1 : World, Below w.heap.size w w1 → Calls Tryz.prog 69 #[.agg #[.int .u64 p.g.base, .int .u64 p.g.bt, .string p.g.snap, .slice d.e.a p.g.L.length d.e.c], .int .u64 p.agr] w1 fun e w' => e = .returned (.tuple #[.int .u64 (tAt p.g.base p.g.bt p.g.L p.agr).1, .bool (tAt p.g.base p.g.bt p.g.L p.agr).2]) ∧ Below w1.heap.size w1 w' from fun w1 HB => pTermAt_any _ _ _ _ _ _ _ p.g.L rfl (by omega) hba hk64 _ (hM.later HB).e)
 have HCM := hI_ (show commitP p = if (tAt p.g.base p.g.bt p.g.L p.agr).2 = true ∧ (tAt p.g.base p.g.bt p.g.L p.agr).1 = p.term ∧ p.commit < p.agr then { p with commit := p.agr } else p from rfl)
 have HAC := hI_ (show ∀ (w1 : World) (s1 s2 : Sa), Us w1 s1.a p.conf.V → Below w.heap.size w w1 → Calls Tryz.prog 133 #[.agg #[.slice s1.a p.conf.V.length s1.c, .slice s2.a p.conf.L.length s2.c], .slice d.m.a p.mat.length d.m.c] w1 (AgP w1 p.agr) from fun w1 s1 s2 hV HB => pAgreed_any _ _ _ _ _ _ _ _ _ p.conf.V p.mat rfl (by omega) rfl (by omega) _ hV (hM.later HB).m)
 obtain ⟨k, hk0⟩ : ∃ k, p.agr = k := ⟨_, rfl⟩
 rw [hk0] at HTA HCM HAC hk64
 obtain ⟨ta, tb, hta⟩ : ∃ ta tb, tAt p.g.base p.g.bt p.g.L k = (ta, tb) := ⟨_, _, rfl⟩
 rw [hta] at HTA HCM
 clear HAG hk0 hta hml hel hba hv0 hv7 hl3
 go_enter Tryz.func79, Tryz.ntmps79
 go_wp2_with fail
 refine wp_region_held_drew (S := fun w' => Bk w' w.heap.size 34 (ndL p d) ∧ Bk w' y 34 znA.toList ∧ Below w.heap.size w w') (by kernel_rfl) (⟨HN.later ((Below.refl _ _).drew), HR.later ((Below.refl _ _).drew), HB.drew⟩) (fun HS => ?_)
 refine tkh (i := 0) (v := (.agg (ndL p d).toArray)) rfl ⟨by rfl, fun _ hSw => eLb _ rfl rfl nodeT hSw.1 rfl⟩ HS ?_
 try simp only [ly, Act.put]
 refine tkp (i := 2) rfl HS ?_
 refine tkh (i := 3) (v := (.slice d.m.a p.mat.length d.m.c)) rfl ⟨by rfl, fun _ hSw => exec_load_c _ rfl rfl ocM hSw.1 rfl⟩ HS ?_
 try simp only [ly, Act.put]
 refine onh (r := 1) (by kernel_rfl) rfl (fun KK hK => ?_)
 go_simp
 refine (pConf_any p d hBd K _ (hM.later HS.2.2)).mono ?_
 rintro e w2 ⟨s1, s2, rfl, hV, hU, hb⟩
 have HV := hI_ hV
 go_wp2_with fail
 refine hK.out _ _ ⟨HS.1.later hb, HS.2.1.later hb, HS.2.2.trans (hb.mono HS.2.2.size)⟩ (fun HS => ?_)
 clear hK
 try simp only [ly, Act.put]
 refine onh (r := 4) (by kernel_rfl) rfl (fun KK hK => ?_)
 go_simp
 refine (HAC.out _ s1 s2 HV.out HS.2.2).mono ?_
 rintro e w4 ⟨rfl, hb⟩
 go_wp2_with fail
 refine hK.out _ _ ⟨HS.1.later hb, HS.2.1.later hb, HS.2.2.trans (hb.mono HS.2.2.size)⟩ (fun HS => ?_)
 clear hK
 try simp only [ly, Act.put]
 refine tkp (i := 5) rfl HS ?_
 try simp only [ly, Act.put]
 refine wpAnyH_done (by kernel_rfl) ?_ _
 replace HN := HS.1
 replace HR := HS.2.1
 replace HB := HS.2.2
 go_wp2_with (first
  | (refine lSb rfl _ rfl rfl [.int .u64 p.g.base, .int .u64 p.g.bt, .string p.g.snap, .slice d.e.a p.g.L.length d.e.c] logT (by assumption) rfl rfl ?_))
 refine (HTA.out _ HB).mono ?_
 rintro e w3 ⟨rfl, hb⟩
 replace HB := HB.trans (hb.mono HB.size)
 replace HN := HN.later hb
 replace HR := HR.later hb
 clear hb
 have c3 := HN.bx.c 3 _ rfl
 have c11 := HN.bx.c 11 _ rfl
 cases tb
 case false =>
  have HC2 := hI_ (show commitP p = p by rw [HCM.out, if_neg (by simp)])
  go_wp2_with (first
   | (refine lBk rfl _ rfl rfl nodeT (by assumption) rfl ?_)
   | (refine sBk rfl _ _ rfl rfl rfl nodeT HR rfl rfl rfl ?_; intro w' hk hg; replace HN := HN.grown hg (by have := hyn.out; omega); replace HB := bGr HB hg HB.size (by have := hyn.out; omega); replace HR := hk; clear hk hg))
  refine bodyPost_ret (v := ndV p d) (by rw [results_bk Tryz.results79 _ rfl nodeT HR rfl]) rfl ?_
  exact ⟨d, by rw [HC2.out], by rw [HC2.out]; exact hMM.out.later HB, HB⟩
 by_cases h1 : ta = p.term
 case neg =>
  have HC2 := hI_ (show commitP p = p by rw [HCM.out, if_neg (fun h => h1 h.2.1)])
  have g : ((ta : Int) == (p.term : Int)) = false := by simp; omega
  go_wp2_with (first
   | (refine lBk rfl _ rfl rfl nodeT (by assumption) rfl ?_)
   | (refine sBk rfl _ _ rfl rfl rfl nodeT HR rfl rfl rfl ?_; intro w' hk hg; replace HN := HN.grown hg (by have := hyn.out; omega); replace HB := bGr HB hg HB.size (by have := hyn.out; omega); replace HR := hk; clear hk hg))
  refine bodyPost_ret (v := ndV p d) (by rw [results_bk Tryz.results79 _ rfl nodeT HR rfl]) rfl ?_
  exact ⟨d, by rw [HC2.out], by rw [HC2.out]; exact hMM.out.later HB, HB⟩
 have g : ((ta : Int) == (p.term : Int)) = true := by simp; omega
 by_cases h2 : p.commit < k
 case neg =>
  have HC2 := hI_ (show commitP p = p by rw [HCM.out, if_neg (fun h => h2 h.2.2)])
  have g2 : ¬ (p.commit : Int) < (k : Int) := by omega
  go_wp2_with (first
   | (refine lBk rfl _ rfl rfl nodeT (by assumption) rfl ?_)
   | (refine sBk rfl _ _ rfl rfl rfl nodeT HR rfl rfl rfl ?_; intro w' hk hg; replace HN := HN.grown hg (by have := hyn.out; omega); replace HB := bGr HB hg HB.size (by have := hyn.out; omega); replace HR := hk; clear hk hg))
  refine bodyPost_ret (v := ndV p d) (by rw [results_bk Tryz.results79 _ rfl nodeT HR rfl]) rfl ?_
  exact ⟨d, by rw [HC2.out], by rw [HC2.out]; exact hMM.out.later HB, HB⟩
 have g2 : (p.commit : Int) < (k : Int) := by omega
 have HC2 := hI_ (show commitP p = { p with commit := k } by rw [HCM.out, if_pos ⟨rfl, h1, h2⟩])
 go_wp2_with (first
  | (refine lBk rfl _ rfl rfl nodeT (by assumption) rfl ?_)
  | (refine sCc (v := .int .u64 k) rfl _ _ rfl rfl rfl (ocA rfl) HN rfl rfl rfl ?_; intro w' hk hg; replace HR := HR.grown hg (by have := hyn.out; omega); replace HB := bGr HB hg HB.size (Nat.le_refl _); replace HN := hk; clear hk hg)
  | (refine sBk rfl _ _ rfl rfl rfl nodeT HR rfl rfl rfl ?_; intro w' hk hg; replace HN := HN.grown hg (by have := hyn.out; omega); replace HB := bGr HB hg HB.size (by have := hyn.out; omega); replace HR := hk; clear hk hg))
 refine bodyPost_ret (v := ndV { p with commit := k } d) (by rw [results_bk Tryz.results79 _ rfl nodeT HR rfl]; rfl) rfl ?_
 have hm := hMM.out.later HB
 exact ⟨d, by rw [HC2.out], by rw [HC2.out]; exact ⟨hm.v, hm.l, hm.e, hm.ec, hm.em, hm.o, hm.n, hm.m, hm.tv, hm.tl, hm.te, hm.tvo, hm.tn, hm.tm⟩, HB⟩
end Go.Proofs.YtdcpiaoadbbdoaaGreatDoor
