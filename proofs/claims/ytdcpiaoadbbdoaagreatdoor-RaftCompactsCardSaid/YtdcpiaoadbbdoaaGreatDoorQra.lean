/- What a node needs next of the log: entries. -/
import Derived.Test.YtdcpiaoadbbdoaaGreatDoorRb
import Derived.Test.YtdcpiaoadbbdoaaGreatDoorQse
set_option maxRecDepth 100000
set_option maxHeartbeats 16000000
namespace Go.Proofs.YtdcpiaoadbbdoaaGreatDoor
open Go.RowKit

theorem pPortion_a (p : Pn) (d : Ad) (hBd : Bd p) (q K : Nat) (w : World) (hM : NdM K w p d) (hI : ¬ nextI p q ≤ p.g.base) :
 Calls Tryz.prog 134 #[ndV p d, .int .u64 q] w (PoP w (portG p q)) := by
 obtain ⟨W, hW, HB, HN, Z0⟩ := nk_new w p d
 unfold ndA at hW
 obtain ⟨W1, y1, hW1, hy1, B1, HR, Z1⟩ := bk_new W zmA 59
 obtain ⟨W2, y2, hW2, hy2, B2, HL, Z2⟩ := bk_new W1 #[.int .u64 p.g.base, .int .u64 p.g.bt, .string p.g.snap, .slice d.e.a p.g.L.length d.e.c] 28
 have hz0 := Z0.out
 have hz1 := Z1.out
 have hz2 := Z2.out
 have HN1 := HN.later (hy1 ▸ B1)
 replace HN := HN1.later (hy2 ▸ B2)
 replace HR := HR.later (hy2 ▸ B2)
 replace HB := (HB.trans (B1.mono (by omega))).trans (B2.mono (by omega))
 have hyy := hI_ (show w.heap.size < y1 ∧ y1 < y2 ∧ y2 < W2.heap.size by omega)
 have hbase := hBd.base
 have hl := hBd.ents
 have hnl := hBd.next
 have hib : nextI p q < 18446744073709551616 := by
  unfold nextI; split
  · exact mark_lt hBd.nexts
  · decide
 have hmk := hI_ (show nextI p q = if (markN q p.next).2 then (markN q p.next).1 else 1 from rfl)
 have hpo := hI_ (show portG p q = if nextI p q ≤ p.g.base then { msgG p 6 q with i := p.g.base, lt := p.g.bt, snap := p.g.snap } else { msgG p 5 q with i := nextI p q - 1, lt := (tAt p.g.base p.g.bt p.g.L (nextI p q - 1)).1, commit := p.commit, es := fromL p.g.base p.g.L (nextI p q) 8 } from rfl)
 generalize nextI p q = I at *
 clear B1 B2 hz0 hz1 hz2
 unfold zmA at hW1
 go_enter Tryz.func134, Tryz.ntmps134
 go_wp2_with (first
  | (refine lSb rfl _ rfl rfl [.int .u64 p.g.base, .int .u64 p.g.bt, .string p.g.snap, .slice d.e.a p.g.L.length d.e.c] logT (by assumption) rfl rfl ?_)
  | (refine lCc rfl _ rfl rfl (ocA rfl) (by assumption) rfl ?_))
 refine (pMark_any q _ _ _ p.next rfl (by omega) _ (hM.later HB).n).mono ?_
 rintro e w1 ⟨rfl, hb⟩
 replace HB := HB.trans (hb.mono HB.size)
 replace HN := HN.later hb
 replace HR := HR.later hb
 replace HL := HL.later hb
 clear hb
 obtain ⟨mk, mb, hmm⟩ : ∃ mk mb, markN q p.next = (mk, mb) := ⟨_, _, rfl⟩
 rw [hmm] at hmk ⊢
 have hfr : ∀ w1 : World, Below w.heap.size w w1 → Calls Tryz.prog 70 #[.agg #[.int .u64 p.g.base, .int .u64 p.g.bt, .string p.g.snap, .slice d.e.a p.g.L.length d.e.c], .int .u64 I, .int .i64 8] w1 (FrP w1 (fromL p.g.base p.g.L I 8) (decide (p.g.base < I))) := fun w1 HB => pFrom_any _ _ _ _ _ _ _ _ p.g.L rfl (by omega) hM.ec hM.em hbase hib _ (hM.later HB).e
 have HFR := hI_ hfr
 clear hmm hfr
 have hcut : ∀ (w1 : World) (PP : World → Prop), PP w1 → PP w1 := fun _ _ h => h
 clear hcut
 have HPO := hI_ (show portG p q = { msgG p 5 q with i := I - 1, lt := (tAt p.g.base p.g.bt p.g.L (I - 1)).1, commit := p.commit, es := fromL p.g.base p.g.L I 8 } by rw [hpo.out, if_neg hI])
 have hd : decide (p.g.base < I) = true := decide_eq_true (by omega)
 rw [hd] at HFR
 have hi1 : I - 1 < 18446744073709551616 := by omega
 have HTA := hI_ (show ∀ w1 : World, Below w.heap.size w w1 → Calls Tryz.prog 69 #[.agg #[.int .u64 p.g.base, .int .u64 p.g.bt, .string p.g.snap, .slice d.e.a p.g.L.length d.e.c], .int .u64 (I - 1 : Nat)] w1 fun e w' => e = .returned (.tuple #[.int .u64 (tAt p.g.base p.g.bt p.g.L (I - 1)).1, .bool (tAt p.g.base p.g.bt p.g.L (I - 1)).2]) ∧ Below w1.heap.size w1 w' from fun w1 HB => pTermAt_any _ _ _ _ _ _ _ p.g.L rfl (by omega) hbase hi1 _ (hM.later HB).e)
 have wI : IntKind.u64.wrap ((I : Int) - 1) = ((I - 1 : Nat) : Int) := by rw [IntWalk.u64_in _ (by omega)]; omega
 have wI2 : (I : Int) - 1 = ((I - 1 : Nat) : Int) := by omega
 have wJ : IntKind.u64.wrap ((I - 1 : Nat) : Int) = ((I - 1 : Nat) : Int) := IntWalk.u64_in _ (by omega)
 have hfl : (fromL p.g.base p.g.L I 8).length * 24 ≤ 140737488355328 := by
  have : (fromL p.g.base p.g.L I 8).length ≤ 8 := by
   unfold fromL; split
   · simp
   · rw [List.length_take]; exact Nat.min_le_left _ _
  omega
 obtain ⟨J, hJ⟩ : ∃ J, I - 1 = J := ⟨_, rfl⟩
 rw [hJ] at HPO HTA wI wI2 wJ
 obtain ⟨es, hes⟩ : ∃ es, fromL p.g.base p.g.L I 8 = es := ⟨_, rfl⟩
 rw [hes] at HPO HFR hfl
 obtain ⟨ta, tb, hta⟩ : ∃ ta tb, tAt p.g.base p.g.bt p.g.L J = (ta, tb) := ⟨_, _, rfl⟩
 rw [hta] at HPO HTA
 clear hd hpo hi1 hJ hes hta
 cases mb
 case true =>
  have hIv := hmk.out
  simp only [if_true] at hIv
  first | (subst hIv) | (obtain rfl := hIv)
  go_wp2_with (first
   | (refine lCc rfl _ rfl rfl (ocA rfl) (by assumption) rfl ?_)
   | (refine lBk rfl _ rfl rfl logT (by assumption) rfl ?_))
  refine (HFR.out _ HB).mono ?_
  rintro e w3 ⟨a3, c3, rfl, hE3, hb⟩
  replace HB := HB.trans (hb.mono HB.size)
  replace HN := HN.later hb
  replace HR := HR.later hb
  replace HL := HL.later hb
  have HE := hE3
  clear hb hE3
  go_wp2_with (first
   | (refine lBk rfl _ rfl rfl nodeT (by assumption) rfl ?_))
  refine (pMessage_any p d 5 q _).mono ?_
  rintro e w4 ⟨rfl, hb⟩
  replace HB := HB.trans (hb.mono HB.size)
  replace HN := HN.later hb
  replace HR := HR.later hb
  replace HL := HL.later hb
  replace HE := HE.later hb
  clear hb
  obtain ⟨x0, hx0⟩ : ∃ x, msgG p 5 q = x := ⟨_, rfl⟩
  have HX0 := hI_ hx0
  rw [hx0]
  clear hx0
  obtain ⟨w5, y5, hw5, hy5, B5, HX, Z5⟩ := bk_new w4 (mgA x0) 59
  have hyx := hI_ (show w.heap.size < y5 ∧ y1 < y5 ∧ y2 < y5 by have := HR.lt; have := HL.lt; have := HN.lt; omega)
  have HEN := hI_ (show 0 < es.length → ∀ q, a3 = some q → q.block ≠ y5 from fun h q e => by
   obtain ⟨b, off, e2, hlt⟩ := HE.addr h
   rw [e2] at e; cases e
   simp only; omega)
  replace HN := HN.later (hy5 ▸ B5)
  replace HR := HR.later (hy5 ▸ B5)
  replace HL := HL.later (hy5 ▸ B5)
  replace HE := HE.later (hy5 ▸ B5)
  replace HB := HB.trans ((hy5 ▸ B5 : Below w4.heap.size w4 w5).mono HB.size)
  unfold mgA at hw5
  clear B5
  go_wp2_with fail
  replace HN := HN.later ((Below.refl _ _).drew)
  replace HR := HR.later ((Below.refl _ _).drew)
  replace HL := HL.later ((Below.refl _ _).drew)
  replace HX := HX.later ((Below.refl _ _).drew)
  replace HB := HB.drew
  replace HE := HE.later ((Below.refl _ _).drew)
  refine wp_region_held_drew (S := fun w' => Bk w' w.heap.size 34 (ndL p d) ∧ Below w.heap.size w w') (by kernel_rfl) (⟨HN, HB⟩) (fun HS => ?_)
  refine tkp (i := 0) rfl HS ?_
  refine tkh (i := 1) (v := (.int .u64 J)) rfl ⟨by rfl, ?h1⟩ HS ?_
  case h1 => (intro _ hSw; go_simp; (try with_reducible rfl); try (first | exact wJ | (have h := wI2; simp at h; rw [← h]; decide) | (rw [← wI2]; rfl)))
  try simp only [ly, Act.put]
  refine tkp (i := 2) rfl HS ?_
  refine tkh (i := 3) (v := (.int .u64 p.commit)) rfl ⟨by rfl, fun _ hSw => exec_load_c _ rfl rfl ocU hSw.1 rfl⟩ HS ?_
  try simp only [ly, Act.put]
  refine tkp (i := 4) rfl HS ?_
  try simp only [ly, Act.put]
  refine onh (r := 5) (by kernel_rfl) rfl (fun KK hK => ?_)
  rw [if_pos (by rfl)]
  refine wp_store_c (v := .int .u64 J) _ _ rfl rfl rfl (ocA rfl) HX rfl rfl rfl ?_
  intro w' hk hg
  replace HN := HN.grown hg (by have := hyx.out; omega)
  replace HR := HR.grown hg (by have := hyx.out; omega)
  replace HL := HL.grown hg (by have := hyx.out; omega)
  replace HE := HE.grown hg HEN.out
  replace HB := bGr HB hg HB.size (by have := hyx.out; omega)
  replace HX := hk
  clear hk hg
  refine hK.out _ _ ⟨HN, HB⟩ (fun HS => ?_)
  clear hK
  try simp only [ly, Act.put]
  refine tkp (i := 6) rfl HS ?_
  try simp only [ly, Act.put]
  refine onh (r := 7) (by kernel_rfl) rfl (fun KK hK => ?_)
  rw [if_pos (by rfl)]
  refine wp_store_c (v := .int .u64 p.commit) _ _ rfl rfl rfl (ocA rfl) HX rfl rfl rfl ?_
  intro w' hk hg
  replace HN := HN.grown hg (by have := hyx.out; omega)
  replace HR := HR.grown hg (by have := hyx.out; omega)
  replace HL := HL.grown hg (by have := hyx.out; omega)
  replace HE := HE.grown hg HEN.out
  replace HB := bGr HB hg HB.size (by have := hyx.out; omega)
  replace HX := hk
  clear hk hg
  refine hK.out _ _ ⟨HN, HB⟩ (fun HS => ?_)
  clear hK
  try simp only [ly, Act.put]
  refine wpAnyH_done (by kernel_rfl) ?_ _
  go_wp2_with (first
   | (refine lBk rfl _ rfl rfl logT (by assumption) rfl ?_))
  refine (HTA.out _ HB).mono ?_
  rintro e w6 ⟨rfl, hb⟩
  replace HB := HB.trans (hb.mono HB.size)
  replace HN := HN.later hb
  replace HR := HR.later hb
  replace HX := HX.later hb
  replace HE := HE.later hb
  clear hb HL
  go_wp2_with (first
   | (refine sCc (v := .int .u64 ta) rfl _ _ rfl rfl rfl ocU HX rfl rfl rfl ?_; intro w' hk hg; replace HN := HN.grown hg (by have := hyx.out; omega); replace HR := HR.grown hg (by have := hyx.out; omega); replace HE := HE.grown hg HEN.out; replace HB := bGr HB hg HB.size (by have := hyx.out; omega); replace HX := hk; clear hk hg))
  refine (cloneE_any _ c3 a3 es rfl hfl _ (ents_rw HE)).mono ?_
  rintro e w7 ⟨v7, rfl, hc7, hb⟩
  obtain ⟨a7, c7, rfl, hm7⟩ := mgM_clone hc7
  have HM7 := hI_ (hm7 { x0 with i := J, commit := p.commit, lt := ta, es := es, at_ := a7, cap := c7 } rfl rfl rfl)
  replace HB := HB.trans (hb.mono HB.size)
  replace HN := HN.later hb
  replace HR := HR.later hb
  replace HX := HX.later hb
  clear hb hc7 hm7 HE
  go_wp2_with (first
   | (refine sCc (v := .slice a7 es.length c7) rfl _ _ rfl rfl rfl ocE HX rfl rfl rfl ?_; intro w' hk hg; replace HR := HR.grown hg (by have := hyx.out; omega); replace HB := bGr HB hg HB.size (by have := hyx.out; omega); replace HM7 := hI_ (HM7.out.box hg HX.bx.ty messNe); replace HX := hk; clear hk hg)
   | (refine lBk rfl _ rfl rfl messT HX rfl ?_)
   | (refine sBk rfl _ _ rfl rfl rfl messT HR rfl rfl rfl ?_; intro w' hk hg; replace HB := bGr HB hg HB.size (by have := hyy.out; omega); replace HM7 := hI_ (HM7.out.box hg HR.bx.ty messNe); replace HR := hk; clear hk hg))
  refine bodyPost_ret (v := mgV { x0 with i := J, commit := p.commit, lt := ta, es := es, at_ := a7, cap := c7 }) (by rw [results_bk Tryz.results134 _ rfl messT HR rfl]; rfl) rfl ?_
  exact ⟨{ x0 with i := J, commit := p.commit, lt := ta, es := es, at_ := a7, cap := c7 }, rfl, by rw [HPO.out, ← HX0.out]; rfl, HM7.out, HB⟩
 case false =>
  have hIv := hmk.out
  simp only [if_false, Bool.false_eq_true] at hIv
  first | (subst hIv) | (obtain rfl := hIv)
  have hJ0 : J = 0 := by omega
  subst hJ0
  have e0 : ((0 : Nat) : Int) = 0 := rfl
  simp only [e0] at HTA
  clear wI wI2 wJ
  go_wp2_with (first
   | (refine lCc rfl _ rfl rfl (ocA rfl) (by assumption) rfl ?_)
   | (refine lBk rfl _ rfl rfl logT (by assumption) rfl ?_))
  refine (HFR.out _ HB).mono ?_
  rintro e w3 ⟨a3, c3, rfl, hE3, hb⟩
  replace HB := HB.trans (hb.mono HB.size)
  replace HN := HN.later hb
  replace HR := HR.later hb
  replace HL := HL.later hb
  have HE := hE3
  clear hb hE3
  go_wp2_with (first
   | (refine lBk rfl _ rfl rfl nodeT (by assumption) rfl ?_))
  refine (pMessage_any p d 5 q _).mono ?_
  rintro e w4 ⟨rfl, hb⟩
  replace HB := HB.trans (hb.mono HB.size)
  replace HN := HN.later hb
  replace HR := HR.later hb
  replace HL := HL.later hb
  replace HE := HE.later hb
  clear hb
  obtain ⟨x0, hx0⟩ : ∃ x, msgG p 5 q = x := ⟨_, rfl⟩
  have HX0 := hI_ hx0
  rw [hx0]
  clear hx0
  obtain ⟨w5, y5, hw5, hy5, B5, HX, Z5⟩ := bk_new w4 (mgA x0) 59
  have hyx := hI_ (show w.heap.size < y5 ∧ y1 < y5 ∧ y2 < y5 by have := HR.lt; have := HL.lt; have := HN.lt; omega)
  have HEN := hI_ (show 0 < es.length → ∀ q, a3 = some q → q.block ≠ y5 from fun h q e => by
   obtain ⟨b, off, e2, hlt⟩ := HE.addr h
   rw [e2] at e; cases e
   simp only; omega)
  replace HN := HN.later (hy5 ▸ B5)
  replace HR := HR.later (hy5 ▸ B5)
  replace HL := HL.later (hy5 ▸ B5)
  replace HE := HE.later (hy5 ▸ B5)
  replace HB := HB.trans ((hy5 ▸ B5 : Below w4.heap.size w4 w5).mono HB.size)
  unfold mgA at hw5
  clear B5
  go_wp2_with fail
  replace HN := HN.later ((Below.refl _ _).drew)
  replace HR := HR.later ((Below.refl _ _).drew)
  replace HL := HL.later ((Below.refl _ _).drew)
  replace HX := HX.later ((Below.refl _ _).drew)
  replace HB := HB.drew
  replace HE := HE.later ((Below.refl _ _).drew)
  refine wp_region_held_drew (S := fun w' => Bk w' w.heap.size 34 (ndL p d) ∧ Below w.heap.size w w') (by kernel_rfl) (⟨HN, HB⟩) (fun HS => ?_)
  refine tkp (i := 0) rfl HS ?_
  refine tkh (i := 1) (v := (.int .u64 0)) rfl ⟨by rfl, ?h1⟩ HS ?_
  case h1 => (intro _ hSw; go_simp; (try with_reducible rfl); try (first | rfl | decide | (have h := wI2; simp at h; rw [← h]; decide) | (rw [← wI2]; rfl)))
  try simp only [ly, Act.put]
  refine tkp (i := 2) rfl HS ?_
  refine tkh (i := 3) (v := (.int .u64 p.commit)) rfl ⟨by rfl, fun _ hSw => exec_load_c _ rfl rfl ocU hSw.1 rfl⟩ HS ?_
  try simp only [ly, Act.put]
  refine tkp (i := 4) rfl HS ?_
  try simp only [ly, Act.put]
  refine onh (r := 5) (by kernel_rfl) rfl (fun KK hK => ?_)
  rw [if_pos (by rfl)]
  refine wp_store_c (v := .int .u64 0) _ _ rfl rfl rfl (ocA rfl) HX rfl rfl rfl ?_
  intro w' hk hg
  replace HN := HN.grown hg (by have := hyx.out; omega)
  replace HR := HR.grown hg (by have := hyx.out; omega)
  replace HL := HL.grown hg (by have := hyx.out; omega)
  replace HE := HE.grown hg HEN.out
  replace HB := bGr HB hg HB.size (by have := hyx.out; omega)
  replace HX := hk
  clear hk hg
  refine hK.out _ _ ⟨HN, HB⟩ (fun HS => ?_)
  clear hK
  try simp only [ly, Act.put]
  refine tkp (i := 6) rfl HS ?_
  try simp only [ly, Act.put]
  refine onh (r := 7) (by kernel_rfl) rfl (fun KK hK => ?_)
  rw [if_pos (by rfl)]
  refine wp_store_c (v := .int .u64 p.commit) _ _ rfl rfl rfl (ocA rfl) HX rfl rfl rfl ?_
  intro w' hk hg
  replace HN := HN.grown hg (by have := hyx.out; omega)
  replace HR := HR.grown hg (by have := hyx.out; omega)
  replace HL := HL.grown hg (by have := hyx.out; omega)
  replace HE := HE.grown hg HEN.out
  replace HB := bGr HB hg HB.size (by have := hyx.out; omega)
  replace HX := hk
  clear hk hg
  refine hK.out _ _ ⟨HN, HB⟩ (fun HS => ?_)
  clear hK
  try simp only [ly, Act.put]
  refine wpAnyH_done (by kernel_rfl) ?_ _
  go_wp2_with (first
   | (refine lBk rfl _ rfl rfl logT (by assumption) rfl ?_))
  refine (HTA.out _ HB).mono ?_
  rintro e w6 ⟨rfl, hb⟩
  replace HB := HB.trans (hb.mono HB.size)
  replace HN := HN.later hb
  replace HR := HR.later hb
  replace HX := HX.later hb
  replace HE := HE.later hb
  clear hb HL
  go_wp2_with (first
   | (refine sCc (v := .int .u64 ta) rfl _ _ rfl rfl rfl ocU HX rfl rfl rfl ?_; intro w' hk hg; replace HN := HN.grown hg (by have := hyx.out; omega); replace HR := HR.grown hg (by have := hyx.out; omega); replace HE := HE.grown hg HEN.out; replace HB := bGr HB hg HB.size (by have := hyx.out; omega); replace HX := hk; clear hk hg))
  refine (cloneE_any _ c3 a3 es rfl hfl _ (ents_rw HE)).mono ?_
  rintro e w7 ⟨v7, rfl, hc7, hb⟩
  obtain ⟨a7, c7, rfl, hm7⟩ := mgM_clone hc7
  have HM7 := hI_ (hm7 { x0 with i := 0, commit := p.commit, lt := ta, es := es, at_ := a7, cap := c7 } rfl rfl rfl)
  replace HB := HB.trans (hb.mono HB.size)
  replace HN := HN.later hb
  replace HR := HR.later hb
  replace HX := HX.later hb
  clear hb hc7 hm7 HE
  go_wp2_with (first
   | (refine sCc (v := .slice a7 es.length c7) rfl _ _ rfl rfl rfl ocE HX rfl rfl rfl ?_; intro w' hk hg; replace HR := HR.grown hg (by have := hyx.out; omega); replace HB := bGr HB hg HB.size (by have := hyx.out; omega); replace HM7 := hI_ (HM7.out.box hg HX.bx.ty messNe); replace HX := hk; clear hk hg)
   | (refine lBk rfl _ rfl rfl messT HX rfl ?_)
   | (refine sBk rfl _ _ rfl rfl rfl messT HR rfl rfl rfl ?_; intro w' hk hg; replace HB := bGr HB hg HB.size (by have := hyy.out; omega); replace HM7 := hI_ (HM7.out.box hg HR.bx.ty messNe); replace HR := hk; clear hk hg))
  refine bodyPost_ret (v := mgV { x0 with i := 0, commit := p.commit, lt := ta, es := es, at_ := a7, cap := c7 }) (by rw [results_bk Tryz.results134 _ rfl messT HR rfl]; rfl) rfl ?_
  exact ⟨{ x0 with i := 0, commit := p.commit, lt := ta, es := es, at_ := a7, cap := c7 }, rfl, by rw [HPO.out, ← HX0.out]; rfl, HM7.out, HB⟩
end Go.Proofs.YtdcpiaoadbbdoaaGreatDoor
