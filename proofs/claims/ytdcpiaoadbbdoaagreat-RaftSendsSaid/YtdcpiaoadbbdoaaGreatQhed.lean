/- Which numbers may be. -/
import Derived.Test.YtdcpiaoadbbdoaaGreatBulk
import Derived.Test.YtdcpiaoadbbdoaaGreatQmb
import Derived.Test.YtdcpiaoadbbdoaaGreatQht
import Derived.Test.YtdcpiaoadbbdoaaGreatQvo
set_option maxRecDepth 100000
set_option maxHeartbeats 16000000
namespace Go.Proofs.YtdcpiaoadbbdoaaGreat
open Go.RowKit

theorem pMayIdR_any (v : Nat) (w : World) : Calls Tryz.prog 30 #[.int .u64 v] w fun e w' => e = .returned (.bool (decide (1 ≤ v ∧ v ≤ 63))) ∧ w = w' := by
 by_cases h : 1 ≤ v
 · have g : (1 : Int) ≤ (v : Int) := by omega
   by_cases h2 : v ≤ 63
   · have g2 : (v : Int) ≤ 63 := by omega
     go_enter Tryz.func30, Tryz.ntmps30
     go_wp2_with fail
     go_ret
     exact ⟨by simp [h, h2], rfl⟩
   · have g2 : ¬ (v : Int) ≤ 63 := by omega
     go_enter Tryz.func30, Tryz.ntmps30
     go_wp2_with fail
     go_ret
     exact ⟨by simp, rfl⟩
 · have g : ¬ (1 : Int) ≤ (v : Int) := by omega
   go_enter Tryz.func30, Tryz.ntmps30
   go_wp2_with fail
   go_ret
   exact ⟨by simp, rfl⟩

theorem pHear_k1 (p : Pn) (d : Ad) (hBd : Bd p) (m : Mg) (_ : Bm m) (_ : p.g.L.length + m.es.length ≤ 9000000000000) (_ : p.voices.length * 16 ≤ 140737488352900) (_ : p.next.length * 16 ≤ 140737488352900) (_ : p.mat.length * 16 ≤ 140737488352900) (K : Nat) (w : World) (hK : K ≤ w.heap.size) (hM : NdM K w p d) (hE : Ents w m.at_ m.es) (h1 : m.dst = p.id) (h2 : ¬ m.fr = p.id) (h3 : 1 ≤ m.fr ∧ m.fr ≤ 63) (h4 : ¬ 4611686018427387903 < m.term) (hk : m.kind = 1) :
 Calls Tryz.prog 14 #[ndV p d, mgV m] w (NmP K w (hearP p m)) := by
 obtain ⟨W, hW, B0, N0, Z0⟩ := nk_new w p d
 obtain ⟨Wm, ym, hWm, hym, Bm, HG, Zm⟩ := bk_new W (mgA m) 52
 obtain ⟨W1, y, hW1, hy, B1, HR, Z1⟩ := bk_new Wm znA 34
 have Bm' : Below W.heap.size W Wm := hym ▸ Bm
 have B1' : Below Wm.heap.size Wm W1 := hy ▸ B1
 have HB1 := B0.trans (Bm'.mono B0.size)
 have HN := (N0.later Bm').later B1'
 replace HG := HG.later B1'
 have HB := HB1.trans (B1'.mono HB1.size)
 have hyn := hI_ (show w.heap.size < y ∧ w.heap.size < ym ∧ ym < y by have := Z0.out; have := Zm.out; omega)
 clear B0 N0 B1 Bm Bm' B1' HB1
 unfold ndA at hW
 unfold mgA at hWm
 unfold znA at hW1
 have HM := hM.later HB
 have HKK := hI_ hK
 have HEE := hI_ (show ∀ w1, Below w.heap.size w w1 → Ents w1 m.at_ m.es from fun w1 hb => hE.later hb)
 have c0 := HN.bx.c 0 _ rfl
 have e1 := HG.bx.c 1 _ rfl
 have e3 := HG.bx.c 3 _ rfl
 clear hM hE
 have HQ := hI_ (show hearP p m = (p, [foreG p m]) by unfold hearP; rw [if_neg (by rintro (h | h | h | h); exact h h1; exact h2 h; exact h h3; exact h4 h), if_pos hk])
 have g1 : (((m.dst : Nat) : Int) == ((p.id : Nat) : Int)) = true := by first | (simp; done) | (simp; omega)
 have g1' : (((m.dst : Nat) : Int) != ((p.id : Nat) : Int)) = false := by first | (simp; done) | (simp; omega)
 have g2 : (((m.fr : Nat) : Int) == ((p.id : Nat) : Int)) = false := by first | (simp; done) | (simp; omega)
 have g2' : (((m.fr : Nat) : Int) != ((p.id : Nat) : Int)) = true := by first | (simp; done) | (simp; omega)
 have g4 : decide ((4611686018427387903 : Int) < (m.term : Int)) = false := by simp; omega
 have gk1 : (m.kind == 1) = true := by rw [hk]; rfl
 have gk2 : (m.kind == 2) = false := by rw [hk]; rfl
 have gk3 : (m.kind == 3) = false := by rw [hk]; rfl
 have gk4 : (m.kind == 4) = false := by rw [hk]; rfl
 have gk5 : (m.kind == 5) = false := by rw [hk]; rfl
 have gk6 : (m.kind == 6) = false := by rw [hk]; rfl
 have gk7 : (m.kind == 7) = false := by rw [hk]; rfl
 clear h1 hk
 go_enter Tryz.func14, Tryz.ntmps14
 go_wp2_with (first
  | (refine lCc rfl _ rfl rfl (ocA rfl) (by assumption) rfl ?_))
 refine (pMayIdR_any m.fr _).mono ?_
 rintro e w2 ⟨rfl, rfl⟩
 rw [show decide (1 ≤ m.fr ∧ m.fr ≤ 63) = true by simp; omega]
 have cm0 := HG.bx.c 0 _ rfl
 go_wp2_with (first
  | (refine lCc rfl _ rfl rfl (ocA rfl) (by assumption) rfl ?_))
 replace HR := HR.later ((Below.refl _ _).drew)
 refine wp_region_held_drew (S := fun w' => Bk w' w.heap.size 34 (ndL p d) ∧ Bk w' ym 52 (mgC m) ∧ NdM K w' p d ∧ Below w.heap.size w w') (by kernel_rfl) (⟨HN.later ((Below.refl _ _).drew), HG.later ((Below.refl _ _).drew), HM.later ((Below.refl _ _).drew), HB.drew⟩) (fun HS => ?_)
 refine tkh (i := 0) (v := (.agg (ndL p d).toArray)) rfl ⟨by rfl, fun _ hSw => eLb _ rfl rfl nodeT hSw.1 rfl⟩ HS ?_
 refine tkh (i := 1) (v := (.agg (ndL p d).toArray)) rfl ⟨by rfl, fun _ hSw => eLb _ rfl rfl nodeT hSw.1 rfl⟩ HS ?_
 refine tkh (i := 2) (v := (.agg (List.toArray (mgC m)))) rfl ⟨by rfl, fun _ hSw => eLb _ rfl rfl messT hSw.2.1 rfl⟩ HS ?_
 try simp only [ly, Act.put]
 refine onh (r := 3) (by kernel_rfl) rfl (fun KK hK => ?_)
 go_simp
 refine (pForetell_any p d hBd m K _ (Nat.le_trans HKK.out HS.2.2.2.size) HS.2.2.1).mono ?_
 rintro e w5 ⟨v, O, rfl, hC, hO, hb⟩
 have HC := hC.mono HS.2.2.2.size
 have HO := hI_ hO
 clear hC hO
 replace HR := HR.later hb
 go_wp2_with fail
 refine hK.out _ _ ⟨HS.1.later hb, HS.2.1.later hb, HS.2.2.1.later hb, HS.2.2.2.trans (hb.mono HS.2.2.2.size)⟩ (fun HS => ?_)
 clear hK
 try simp only [ly, Act.put]
 refine onh (r := 4) (by kernel_rfl) rfl (fun KK hK => ?_)
 rw [if_pos (by rfl)]
 refine wSb _ _ rfl rfl (M := ndL p d) rfl nodeT HR rfl rfl rfl ?_
 intro w' hk hg
 have HS9 := And.intro (HS.1.grown hg (by have := hyn.out; omega)) (And.intro (HS.2.1.grown hg (by have := hyn.out; omega)) (And.intro (HS.2.2.1.grown hg (by have := hyn.out; omega) HR.bx.ty bNd) (bGr HS.2.2.2 hg HS.2.2.2.size (by have := hyn.out; omega))))
 replace HC := HC.box hg HR.bx.ty boxNm
 replace HR := hk
 clear hk hg
 refine hK.out _ _ HS9 (fun HS => ?_)
 clear HS9
 clear hK
 try simp only [ly, Act.put]
 refine tkp (i := 5) rfl HS ?_
 try simp only [ly, Act.put]
 refine wpAnyH_done (by kernel_rfl) ?_ _
 go_wp2_with fail
 refine bodyPost_ret (v := .tuple #[ndV p d, v]) (by rw [rBt Tryz.results14 _ rfl nodeT HR rfl]; rfl) rfl ?_
 rw [HQ.out]
 exact ⟨d, v, O, rfl, HS.2.2.1, HC, HO.out, HS.2.2.2⟩

theorem pHear_k3 (p : Pn) (d : Ad) (hBd : Bd p) (m : Mg) (_ : Bm m) (_ : p.g.L.length + m.es.length ≤ 9000000000000) (_ : p.voices.length * 16 ≤ 140737488352900) (_ : p.next.length * 16 ≤ 140737488352900) (_ : p.mat.length * 16 ≤ 140737488352900) (K : Nat) (w : World) (hK : K ≤ w.heap.size) (hM : NdM K w p d) (hE : Ents w m.at_ m.es) (h1 : m.dst = p.id) (h2 : ¬ m.fr = p.id) (h3 : 1 ≤ m.fr ∧ m.fr ≤ 63) (h4 : ¬ 4611686018427387903 < m.term) (hk : m.kind = 3) :
 Calls Tryz.prog 14 #[ndV p d, mgV m] w (NmP K w (hearP p m)) := by
 obtain ⟨W, hW, B0, N0, Z0⟩ := nk_new w p d
 obtain ⟨Wm, ym, hWm, hym, Bm, HG, Zm⟩ := bk_new W (mgA m) 52
 obtain ⟨W1, y, hW1, hy, B1, HR, Z1⟩ := bk_new Wm znA 34
 have Bm' : Below W.heap.size W Wm := hym ▸ Bm
 have B1' : Below Wm.heap.size Wm W1 := hy ▸ B1
 have HB1 := B0.trans (Bm'.mono B0.size)
 have HN := (N0.later Bm').later B1'
 replace HG := HG.later B1'
 have HB := HB1.trans (B1'.mono HB1.size)
 have hyn := hI_ (show w.heap.size < y ∧ w.heap.size < ym ∧ ym < y by have := Z0.out; have := Zm.out; omega)
 clear B0 N0 B1 Bm Bm' B1' HB1
 unfold ndA at hW
 unfold mgA at hWm
 unfold znA at hW1
 have HM := hM.later HB
 have HKK := hI_ hK
 have HEE := hI_ (show ∀ w1, Below w.heap.size w w1 → Ents w1 m.at_ m.es from fun w1 hb => hE.later hb)
 have c0 := HN.bx.c 0 _ rfl
 have e1 := HG.bx.c 1 _ rfl
 have e3 := HG.bx.c 3 _ rfl
 clear hM hE
 have HQ := hI_ (show hearP p m = (voteP p m, [voteG p m]) by unfold hearP; rw [if_neg (by rintro (h | h | h | h); exact h h1; exact h2 h; exact h h3; exact h4 h), if_neg (by rw [hk]; decide), if_pos hk])
 have g1 : (((m.dst : Nat) : Int) == ((p.id : Nat) : Int)) = true := by first | (simp; done) | (simp; omega)
 have g1' : (((m.dst : Nat) : Int) != ((p.id : Nat) : Int)) = false := by first | (simp; done) | (simp; omega)
 have g2 : (((m.fr : Nat) : Int) == ((p.id : Nat) : Int)) = false := by first | (simp; done) | (simp; omega)
 have g2' : (((m.fr : Nat) : Int) != ((p.id : Nat) : Int)) = true := by first | (simp; done) | (simp; omega)
 have g4 : decide ((4611686018427387903 : Int) < (m.term : Int)) = false := by simp; omega
 have gk1 : (m.kind == 1) = false := by rw [hk]; rfl
 have gk2 : (m.kind == 2) = false := by rw [hk]; rfl
 have gk3 : (m.kind == 3) = true := by rw [hk]; rfl
 have gk4 : (m.kind == 4) = false := by rw [hk]; rfl
 have gk5 : (m.kind == 5) = false := by rw [hk]; rfl
 have gk6 : (m.kind == 6) = false := by rw [hk]; rfl
 have gk7 : (m.kind == 7) = false := by rw [hk]; rfl
 clear h1 hk
 go_enter Tryz.func14, Tryz.ntmps14
 go_wp2_with (first
  | (refine lCc rfl _ rfl rfl (ocA rfl) (by assumption) rfl ?_))
 refine (pMayIdR_any m.fr _).mono ?_
 rintro e w2 ⟨rfl, rfl⟩
 rw [show decide (1 ≤ m.fr ∧ m.fr ≤ 63) = true by simp; omega]
 go_wp2_with (first
  | (refine lCc rfl _ rfl rfl (ocA rfl) (by assumption) rfl ?_)
  | (refine lBk rfl _ rfl rfl nodeT HN rfl ?_)
  | (refine lBk rfl _ rfl rfl messT HG rfl ?_))
 have HSZ := hI_ HB.size
 refine (pVote_any p d hBd m K _ (Nat.le_trans hK HB.size) HM).mono ?_
 obtain ⟨P3, M3, h3⟩ : ∃ P3 M3, (voteP p m, [voteG p m]) = (P3, M3) := ⟨_, _, rfl⟩
 have HQ2 := hI_ (HQ.out.trans h3)
 rw [h3]
 clear h3 HQ
 rintro e w6 ⟨D3, v, O, rfl, hm3, hC, hO, hb⟩
 replace HB := HB.trans (hb.mono HB.size)
 replace HR := HR.later hb
 replace HM := hm3
 replace hC := hC.mono HSZ.out
 simp only at hO HM
 have HO := hI_ hO
 clear hb hm3 hO HN HG
 go_wp2_with (first
  | (refine sBk rfl _ _ rfl rfl rfl nodeT HR rfl rfl rfl ?_; intro w' hk hg; replace HM := HM.grown hg (by have := hyn.out; omega) HR.bx.ty bNd; replace hC := hC.box hg HR.bx.ty boxNm; replace HB := bGr HB hg HB.size (by have := hyn.out; omega); replace HR := hk; clear hk hg))
 refine bodyPost_ret (v := .tuple #[ndV P3 D3, v]) (by rw [rBt Tryz.results14 _ rfl nodeT HR rfl]; rfl) rfl ?_
 rw [HQ2.out]
 exact ⟨D3, v, O, rfl, HM, hC, HO.out, HB⟩
theorem pHear_k2 (p : Pn) (d : Ad) (hBd : Bd p) (m : Mg) (hm : Bm m) (_ : p.g.L.length + m.es.length ≤ 9000000000000) (hvb : p.voices.length * 16 ≤ 140737488352900) (_ : p.next.length * 16 ≤ 140737488352900) (_ : p.mat.length * 16 ≤ 140737488352900) (K : Nat) (w : World) (hK : K ≤ w.heap.size) (hM : NdM K w p d) (hE : Ents w m.at_ m.es) (h1 : m.dst = p.id) (h2 : ¬ m.fr = p.id) (h3 : 1 ≤ m.fr ∧ m.fr ≤ 63) (h4 : ¬ 4611686018427387903 < m.term) (hk : m.kind = 2) :
 Calls Tryz.prog 14 #[ndV p d, mgV m] w (NmP K w (hearP p m)) := by
 obtain ⟨W, hW, B0, N0, Z0⟩ := nk_new w p d
 obtain ⟨Wm, ym, hWm, hym, Bm, HG, Zm⟩ := bk_new W (mgA m) 52
 obtain ⟨W1, y, hW1, hy, B1, HR, Z1⟩ := bk_new Wm znA 34
 have Bm' : Below W.heap.size W Wm := hym ▸ Bm
 have B1' : Below Wm.heap.size Wm W1 := hy ▸ B1
 have HB1 := B0.trans (Bm'.mono B0.size)
 have HN := (N0.later Bm').later B1'
 replace HG := HG.later B1'
 have HB := HB1.trans (B1'.mono HB1.size)
 have hyn := hI_ (show w.heap.size < y ∧ w.heap.size < ym ∧ ym < y by have := Z0.out; have := Zm.out; omega)
 clear B0 N0 B1 Bm Bm' B1' HB1
 unfold ndA at hW
 unfold mgA at hWm
 unfold znA at hW1
 have HM := hM.later HB
 have HKK := hI_ hK
 have HEE := hI_ (show ∀ w1, Below w.heap.size w w1 → Ents w1 m.at_ m.es from fun w1 hb => hE.later hb)
 have c0 := HN.bx.c 0 _ rfl
 have e1 := HG.bx.c 1 _ rfl
 have e3 := HG.bx.c 3 _ rfl
 clear hM hE
 have HQ := hI_ (show hearP p m = foretP p m by unfold hearP; rw [if_neg (by rintro (h | h | h | h); exact h h1; exact h2 h; exact h h3; exact h4 h), if_neg (by rw [hk]; decide), if_neg (by rw [hk]; decide), if_pos hk])
 have g1 : (((m.dst : Nat) : Int) == ((p.id : Nat) : Int)) = true := by first | (simp; done) | (simp; omega)
 have g1' : (((m.dst : Nat) : Int) != ((p.id : Nat) : Int)) = false := by first | (simp; done) | (simp; omega)
 have g2 : (((m.fr : Nat) : Int) == ((p.id : Nat) : Int)) = false := by first | (simp; done) | (simp; omega)
 have g2' : (((m.fr : Nat) : Int) != ((p.id : Nat) : Int)) = true := by first | (simp; done) | (simp; omega)
 have g4 : decide ((4611686018427387903 : Int) < (m.term : Int)) = false := by simp; omega
 have gk1 : (m.kind == 1) = false := by rw [hk]; rfl
 have gk2 : (m.kind == 2) = true := by rw [hk]; rfl
 have gk3 : (m.kind == 3) = false := by rw [hk]; rfl
 have gk4 : (m.kind == 4) = false := by rw [hk]; rfl
 have gk5 : (m.kind == 5) = false := by rw [hk]; rfl
 have gk6 : (m.kind == 6) = false := by rw [hk]; rfl
 have gk7 : (m.kind == 7) = false := by rw [hk]; rfl
 clear h1 hk
 go_enter Tryz.func14, Tryz.ntmps14
 go_wp2_with (first
  | (refine lCc rfl _ rfl rfl (ocA rfl) (by assumption) rfl ?_))
 refine (pMayIdR_any m.fr _).mono ?_
 rintro e w2 ⟨rfl, rfl⟩
 rw [show decide (1 ≤ m.fr ∧ m.fr ≤ 63) = true by simp; omega]
 go_wp2_with (first
  | (refine lCc rfl _ rfl rfl (ocA rfl) (by assumption) rfl ?_)
  | (refine lBk rfl _ rfl rfl nodeT HN rfl ?_)
  | (refine lBk rfl _ rfl rfl messT HG rfl ?_))
 have HSZ := hI_ HB.size
 refine (pHearForetold_any rmOk p d hBd hvb m hm.fr K _ (Nat.le_trans hK HB.size) HM).mono ?_
 obtain ⟨P3, M3, h3⟩ : ∃ P3 M3, foretP p m = (P3, M3) := ⟨_, _, rfl⟩
 have HQ2 := hI_ (HQ.out.trans h3)
 rw [h3]
 clear h3 HQ
 rintro e w6 ⟨D3, v, O, rfl, hm3, hC, hO, hb⟩
 replace HB := HB.trans (hb.mono HB.size)
 replace HR := HR.later hb
 replace HM := hm3
 replace hC := hC.mono HSZ.out
 simp only at hO HM
 have HO := hI_ hO
 clear hb hm3 hO HN HG
 go_wp2_with (first
  | (refine sBk rfl _ _ rfl rfl rfl nodeT HR rfl rfl rfl ?_; intro w' hk hg; replace HM := HM.grown hg (by have := hyn.out; omega) HR.bx.ty bNd; replace hC := hC.box hg HR.bx.ty boxNm; replace HB := bGr HB hg HB.size (by have := hyn.out; omega); replace HR := hk; clear hk hg))
 refine bodyPost_ret (v := .tuple #[ndV P3 D3, v]) (by rw [rBt Tryz.results14 _ rfl nodeT HR rfl]; rfl) rfl ?_
 rw [HQ2.out]
 exact ⟨D3, v, O, rfl, HM, hC, HO.out, HB⟩

theorem pHear_k4 (p : Pn) (d : Ad) (hBd : Bd p) (m : Mg) (hm : Bm m) (hes : p.g.L.length + m.es.length ≤ 9000000000000) (hvb : p.voices.length * 16 ≤ 140737488352900) (hnx : p.next.length * 16 ≤ 140737488352900) (hmt : p.mat.length * 16 ≤ 140737488352900) (K : Nat) (w : World) (hK : K ≤ w.heap.size) (hM : NdM K w p d) (hE : Ents w m.at_ m.es) (h1 : m.dst = p.id) (h2 : ¬ m.fr = p.id) (h3 : 1 ≤ m.fr ∧ m.fr ≤ 63) (h4 : ¬ 4611686018427387903 < m.term) (hk : m.kind = 4) :
 Calls Tryz.prog 14 #[ndV p d, mgV m] w (NmP K w (hearP p m)) := by
 obtain ⟨W, hW, B0, N0, Z0⟩ := nk_new w p d
 obtain ⟨Wm, ym, hWm, hym, Bm, HG, Zm⟩ := bk_new W (mgA m) 52
 obtain ⟨W1, y, hW1, hy, B1, HR, Z1⟩ := bk_new Wm znA 34
 have Bm' : Below W.heap.size W Wm := hym ▸ Bm
 have B1' : Below Wm.heap.size Wm W1 := hy ▸ B1
 have HB1 := B0.trans (Bm'.mono B0.size)
 have HN := (N0.later Bm').later B1'
 replace HG := HG.later B1'
 have HB := HB1.trans (B1'.mono HB1.size)
 have hyn := hI_ (show w.heap.size < y ∧ w.heap.size < ym ∧ ym < y by have := Z0.out; have := Zm.out; omega)
 clear B0 N0 B1 Bm Bm' B1' HB1
 unfold ndA at hW
 unfold mgA at hWm
 unfold znA at hW1
 have HM := hM.later HB
 have HKK := hI_ hK
 have HEE := hI_ (show ∀ w1, Below w.heap.size w w1 → Ents w1 m.at_ m.es from fun w1 hb => hE.later hb)
 have c0 := HN.bx.c 0 _ rfl
 have e1 := HG.bx.c 1 _ rfl
 have e3 := HG.bx.c 3 _ rfl
 clear hM hE
 have HQ := hI_ (show hearP p m = termP p m by unfold hearP; rw [if_neg (by rintro (h | h | h | h); exact h h1; exact h2 h; exact h h3; exact h4 h), if_neg (by rw [hk]; decide), if_neg (by rw [hk]; decide), if_neg (by rw [hk]; decide), if_pos (by rw [hk]; decide)])
 have g1 : (((m.dst : Nat) : Int) == ((p.id : Nat) : Int)) = true := by first | (simp; done) | (simp; omega)
 have g1' : (((m.dst : Nat) : Int) != ((p.id : Nat) : Int)) = false := by first | (simp; done) | (simp; omega)
 have g2 : (((m.fr : Nat) : Int) == ((p.id : Nat) : Int)) = false := by first | (simp; done) | (simp; omega)
 have g2' : (((m.fr : Nat) : Int) != ((p.id : Nat) : Int)) = true := by first | (simp; done) | (simp; omega)
 have g4 : decide ((4611686018427387903 : Int) < (m.term : Int)) = false := by simp; omega
 have gk1 : (m.kind == 1) = false := by rw [hk]; rfl
 have gk2 : (m.kind == 2) = false := by rw [hk]; rfl
 have gk3 : (m.kind == 3) = false := by rw [hk]; rfl
 have gk4 : (m.kind == 4) = true := by rw [hk]; rfl
 have gk5 : (m.kind == 5) = false := by rw [hk]; rfl
 have gk6 : (m.kind == 6) = false := by rw [hk]; rfl
 have gk7 : (m.kind == 7) = false := by rw [hk]; rfl
 clear h1 hk
 go_enter Tryz.func14, Tryz.ntmps14
 go_wp2_with (first
  | (refine lCc rfl _ rfl rfl (ocA rfl) (by assumption) rfl ?_))
 refine (pMayIdR_any m.fr _).mono ?_
 rintro e w2 ⟨rfl, rfl⟩
 rw [show decide (1 ≤ m.fr ∧ m.fr ≤ 63) = true by simp; omega]
 go_wp2_with (first
  | (refine lCc rfl _ rfl rfl (ocA rfl) (by assumption) rfl ?_)
  | (refine lBk rfl _ rfl rfl nodeT HN rfl ?_)
  | (refine lBk rfl _ rfl rfl messT HG rfl ?_))
 have HSZ := hI_ HB.size
 refine (pHearInTerm_any p d hBd m hm hes hvb hnx hmt K _ (Nat.le_trans hK HB.size) HM (HEE.out _ HB)).mono ?_
 obtain ⟨P3, M3, h3⟩ : ∃ P3 M3, termP p m = (P3, M3) := ⟨_, _, rfl⟩
 have HQ2 := hI_ (HQ.out.trans h3)
 rw [h3]
 clear h3 HQ
 rintro e w6 ⟨D3, v, O, rfl, hm3, hC, hO, hb⟩
 replace HB := HB.trans (hb.mono HB.size)
 replace HR := HR.later hb
 replace HM := hm3
 replace hC := hC.mono HSZ.out
 simp only at hO HM
 have HO := hI_ hO
 clear hb hm3 hO HN HG
 go_wp2_with (first
  | (refine sBk rfl _ _ rfl rfl rfl nodeT HR rfl rfl rfl ?_; intro w' hk hg; replace HM := HM.grown hg (by have := hyn.out; omega) HR.bx.ty bNd; replace hC := hC.box hg HR.bx.ty boxNm; replace HB := bGr HB hg HB.size (by have := hyn.out; omega); replace HR := hk; clear hk hg))
 refine bodyPost_ret (v := .tuple #[ndV P3 D3, v]) (by rw [rBt Tryz.results14 _ rfl nodeT HR rfl]; rfl) rfl ?_
 rw [HQ2.out]
 exact ⟨D3, v, O, rfl, HM, hC, HO.out, HB⟩
theorem pHear_k5 (p : Pn) (d : Ad) (hBd : Bd p) (m : Mg) (hm : Bm m) (hes : p.g.L.length + m.es.length ≤ 9000000000000) (hvb : p.voices.length * 16 ≤ 140737488352900) (hnx : p.next.length * 16 ≤ 140737488352900) (hmt : p.mat.length * 16 ≤ 140737488352900) (K : Nat) (w : World) (hK : K ≤ w.heap.size) (hM : NdM K w p d) (hE : Ents w m.at_ m.es) (h1 : m.dst = p.id) (h2 : ¬ m.fr = p.id) (h3 : 1 ≤ m.fr ∧ m.fr ≤ 63) (h4 : ¬ 4611686018427387903 < m.term) (hk : m.kind = 5) :
 Calls Tryz.prog 14 #[ndV p d, mgV m] w (NmP K w (hearP p m)) := by
 obtain ⟨W, hW, B0, N0, Z0⟩ := nk_new w p d
 obtain ⟨Wm, ym, hWm, hym, Bm, HG, Zm⟩ := bk_new W (mgA m) 52
 obtain ⟨W1, y, hW1, hy, B1, HR, Z1⟩ := bk_new Wm znA 34
 have Bm' : Below W.heap.size W Wm := hym ▸ Bm
 have B1' : Below Wm.heap.size Wm W1 := hy ▸ B1
 have HB1 := B0.trans (Bm'.mono B0.size)
 have HN := (N0.later Bm').later B1'
 replace HG := HG.later B1'
 have HB := HB1.trans (B1'.mono HB1.size)
 have hyn := hI_ (show w.heap.size < y ∧ w.heap.size < ym ∧ ym < y by have := Z0.out; have := Zm.out; omega)
 clear B0 N0 B1 Bm Bm' B1' HB1
 unfold ndA at hW
 unfold mgA at hWm
 unfold znA at hW1
 have HM := hM.later HB
 have HKK := hI_ hK
 have HEE := hI_ (show ∀ w1, Below w.heap.size w w1 → Ents w1 m.at_ m.es from fun w1 hb => hE.later hb)
 have c0 := HN.bx.c 0 _ rfl
 have e1 := HG.bx.c 1 _ rfl
 have e3 := HG.bx.c 3 _ rfl
 clear hM hE
 have HQ := hI_ (show hearP p m = termP p m by unfold hearP; rw [if_neg (by rintro (h | h | h | h); exact h h1; exact h2 h; exact h h3; exact h4 h), if_neg (by rw [hk]; decide), if_neg (by rw [hk]; decide), if_neg (by rw [hk]; decide), if_pos (by rw [hk]; decide)])
 have g1 : (((m.dst : Nat) : Int) == ((p.id : Nat) : Int)) = true := by first | (simp; done) | (simp; omega)
 have g1' : (((m.dst : Nat) : Int) != ((p.id : Nat) : Int)) = false := by first | (simp; done) | (simp; omega)
 have g2 : (((m.fr : Nat) : Int) == ((p.id : Nat) : Int)) = false := by first | (simp; done) | (simp; omega)
 have g2' : (((m.fr : Nat) : Int) != ((p.id : Nat) : Int)) = true := by first | (simp; done) | (simp; omega)
 have g4 : decide ((4611686018427387903 : Int) < (m.term : Int)) = false := by simp; omega
 have gk1 : (m.kind == 1) = false := by rw [hk]; rfl
 have gk2 : (m.kind == 2) = false := by rw [hk]; rfl
 have gk3 : (m.kind == 3) = false := by rw [hk]; rfl
 have gk4 : (m.kind == 4) = false := by rw [hk]; rfl
 have gk5 : (m.kind == 5) = true := by rw [hk]; rfl
 have gk6 : (m.kind == 6) = false := by rw [hk]; rfl
 have gk7 : (m.kind == 7) = false := by rw [hk]; rfl
 clear h1 hk
 go_enter Tryz.func14, Tryz.ntmps14
 go_wp2_with (first
  | (refine lCc rfl _ rfl rfl (ocA rfl) (by assumption) rfl ?_))
 refine (pMayIdR_any m.fr _).mono ?_
 rintro e w2 ⟨rfl, rfl⟩
 rw [show decide (1 ≤ m.fr ∧ m.fr ≤ 63) = true by simp; omega]
 go_wp2_with (first
  | (refine lCc rfl _ rfl rfl (ocA rfl) (by assumption) rfl ?_)
  | (refine lBk rfl _ rfl rfl nodeT HN rfl ?_)
  | (refine lBk rfl _ rfl rfl messT HG rfl ?_))
 have HSZ := hI_ HB.size
 refine (pHearInTerm_any p d hBd m hm hes hvb hnx hmt K _ (Nat.le_trans hK HB.size) HM (HEE.out _ HB)).mono ?_
 obtain ⟨P3, M3, h3⟩ : ∃ P3 M3, termP p m = (P3, M3) := ⟨_, _, rfl⟩
 have HQ2 := hI_ (HQ.out.trans h3)
 rw [h3]
 clear h3 HQ
 rintro e w6 ⟨D3, v, O, rfl, hm3, hC, hO, hb⟩
 replace HB := HB.trans (hb.mono HB.size)
 replace HR := HR.later hb
 replace HM := hm3
 replace hC := hC.mono HSZ.out
 simp only at hO HM
 have HO := hI_ hO
 clear hb hm3 hO HN HG
 go_wp2_with (first
  | (refine sBk rfl _ _ rfl rfl rfl nodeT HR rfl rfl rfl ?_; intro w' hk hg; replace HM := HM.grown hg (by have := hyn.out; omega) HR.bx.ty bNd; replace hC := hC.box hg HR.bx.ty boxNm; replace HB := bGr HB hg HB.size (by have := hyn.out; omega); replace HR := hk; clear hk hg))
 refine bodyPost_ret (v := .tuple #[ndV P3 D3, v]) (by rw [rBt Tryz.results14 _ rfl nodeT HR rfl]; rfl) rfl ?_
 rw [HQ2.out]
 exact ⟨D3, v, O, rfl, HM, hC, HO.out, HB⟩
theorem pHear_k6 (p : Pn) (d : Ad) (hBd : Bd p) (m : Mg) (hm : Bm m) (hes : p.g.L.length + m.es.length ≤ 9000000000000) (hvb : p.voices.length * 16 ≤ 140737488352900) (hnx : p.next.length * 16 ≤ 140737488352900) (hmt : p.mat.length * 16 ≤ 140737488352900) (K : Nat) (w : World) (hK : K ≤ w.heap.size) (hM : NdM K w p d) (hE : Ents w m.at_ m.es) (h1 : m.dst = p.id) (h2 : ¬ m.fr = p.id) (h3 : 1 ≤ m.fr ∧ m.fr ≤ 63) (h4 : ¬ 4611686018427387903 < m.term) (hk : m.kind = 6) :
 Calls Tryz.prog 14 #[ndV p d, mgV m] w (NmP K w (hearP p m)) := by
 obtain ⟨W, hW, B0, N0, Z0⟩ := nk_new w p d
 obtain ⟨Wm, ym, hWm, hym, Bm, HG, Zm⟩ := bk_new W (mgA m) 52
 obtain ⟨W1, y, hW1, hy, B1, HR, Z1⟩ := bk_new Wm znA 34
 have Bm' : Below W.heap.size W Wm := hym ▸ Bm
 have B1' : Below Wm.heap.size Wm W1 := hy ▸ B1
 have HB1 := B0.trans (Bm'.mono B0.size)
 have HN := (N0.later Bm').later B1'
 replace HG := HG.later B1'
 have HB := HB1.trans (B1'.mono HB1.size)
 have hyn := hI_ (show w.heap.size < y ∧ w.heap.size < ym ∧ ym < y by have := Z0.out; have := Zm.out; omega)
 clear B0 N0 B1 Bm Bm' B1' HB1
 unfold ndA at hW
 unfold mgA at hWm
 unfold znA at hW1
 have HM := hM.later HB
 have HKK := hI_ hK
 have HEE := hI_ (show ∀ w1, Below w.heap.size w w1 → Ents w1 m.at_ m.es from fun w1 hb => hE.later hb)
 have c0 := HN.bx.c 0 _ rfl
 have e1 := HG.bx.c 1 _ rfl
 have e3 := HG.bx.c 3 _ rfl
 clear hM hE
 have HQ := hI_ (show hearP p m = termP p m by unfold hearP; rw [if_neg (by rintro (h | h | h | h); exact h h1; exact h2 h; exact h h3; exact h4 h), if_neg (by rw [hk]; decide), if_neg (by rw [hk]; decide), if_neg (by rw [hk]; decide), if_pos (by rw [hk]; decide)])
 have g1 : (((m.dst : Nat) : Int) == ((p.id : Nat) : Int)) = true := by first | (simp; done) | (simp; omega)
 have g1' : (((m.dst : Nat) : Int) != ((p.id : Nat) : Int)) = false := by first | (simp; done) | (simp; omega)
 have g2 : (((m.fr : Nat) : Int) == ((p.id : Nat) : Int)) = false := by first | (simp; done) | (simp; omega)
 have g2' : (((m.fr : Nat) : Int) != ((p.id : Nat) : Int)) = true := by first | (simp; done) | (simp; omega)
 have g4 : decide ((4611686018427387903 : Int) < (m.term : Int)) = false := by simp; omega
 have gk1 : (m.kind == 1) = false := by rw [hk]; rfl
 have gk2 : (m.kind == 2) = false := by rw [hk]; rfl
 have gk3 : (m.kind == 3) = false := by rw [hk]; rfl
 have gk4 : (m.kind == 4) = false := by rw [hk]; rfl
 have gk5 : (m.kind == 5) = false := by rw [hk]; rfl
 have gk6 : (m.kind == 6) = true := by rw [hk]; rfl
 have gk7 : (m.kind == 7) = false := by rw [hk]; rfl
 clear h1 hk
 go_enter Tryz.func14, Tryz.ntmps14
 go_wp2_with (first
  | (refine lCc rfl _ rfl rfl (ocA rfl) (by assumption) rfl ?_))
 refine (pMayIdR_any m.fr _).mono ?_
 rintro e w2 ⟨rfl, rfl⟩
 rw [show decide (1 ≤ m.fr ∧ m.fr ≤ 63) = true by simp; omega]
 go_wp2_with (first
  | (refine lCc rfl _ rfl rfl (ocA rfl) (by assumption) rfl ?_)
  | (refine lBk rfl _ rfl rfl nodeT HN rfl ?_)
  | (refine lBk rfl _ rfl rfl messT HG rfl ?_))
 have HSZ := hI_ HB.size
 refine (pHearInTerm_any p d hBd m hm hes hvb hnx hmt K _ (Nat.le_trans hK HB.size) HM (HEE.out _ HB)).mono ?_
 obtain ⟨P3, M3, h3⟩ : ∃ P3 M3, termP p m = (P3, M3) := ⟨_, _, rfl⟩
 have HQ2 := hI_ (HQ.out.trans h3)
 rw [h3]
 clear h3 HQ
 rintro e w6 ⟨D3, v, O, rfl, hm3, hC, hO, hb⟩
 replace HB := HB.trans (hb.mono HB.size)
 replace HR := HR.later hb
 replace HM := hm3
 replace hC := hC.mono HSZ.out
 simp only at hO HM
 have HO := hI_ hO
 clear hb hm3 hO HN HG
 go_wp2_with (first
  | (refine sBk rfl _ _ rfl rfl rfl nodeT HR rfl rfl rfl ?_; intro w' hk hg; replace HM := HM.grown hg (by have := hyn.out; omega) HR.bx.ty bNd; replace hC := hC.box hg HR.bx.ty boxNm; replace HB := bGr HB hg HB.size (by have := hyn.out; omega); replace HR := hk; clear hk hg))
 refine bodyPost_ret (v := .tuple #[ndV P3 D3, v]) (by rw [rBt Tryz.results14 _ rfl nodeT HR rfl]; rfl) rfl ?_
 rw [HQ2.out]
 exact ⟨D3, v, O, rfl, HM, hC, HO.out, HB⟩
theorem pHear_k7 (p : Pn) (d : Ad) (hBd : Bd p) (m : Mg) (hm : Bm m) (hes : p.g.L.length + m.es.length ≤ 9000000000000) (hvb : p.voices.length * 16 ≤ 140737488352900) (hnx : p.next.length * 16 ≤ 140737488352900) (hmt : p.mat.length * 16 ≤ 140737488352900) (K : Nat) (w : World) (hK : K ≤ w.heap.size) (hM : NdM K w p d) (hE : Ents w m.at_ m.es) (h1 : m.dst = p.id) (h2 : ¬ m.fr = p.id) (h3 : 1 ≤ m.fr ∧ m.fr ≤ 63) (h4 : ¬ 4611686018427387903 < m.term) (hk : m.kind = 7) :
 Calls Tryz.prog 14 #[ndV p d, mgV m] w (NmP K w (hearP p m)) := by
 obtain ⟨W, hW, B0, N0, Z0⟩ := nk_new w p d
 obtain ⟨Wm, ym, hWm, hym, Bm, HG, Zm⟩ := bk_new W (mgA m) 52
 obtain ⟨W1, y, hW1, hy, B1, HR, Z1⟩ := bk_new Wm znA 34
 have Bm' : Below W.heap.size W Wm := hym ▸ Bm
 have B1' : Below Wm.heap.size Wm W1 := hy ▸ B1
 have HB1 := B0.trans (Bm'.mono B0.size)
 have HN := (N0.later Bm').later B1'
 replace HG := HG.later B1'
 have HB := HB1.trans (B1'.mono HB1.size)
 have hyn := hI_ (show w.heap.size < y ∧ w.heap.size < ym ∧ ym < y by have := Z0.out; have := Zm.out; omega)
 clear B0 N0 B1 Bm Bm' B1' HB1
 unfold ndA at hW
 unfold mgA at hWm
 unfold znA at hW1
 have HM := hM.later HB
 have HKK := hI_ hK
 have HEE := hI_ (show ∀ w1, Below w.heap.size w w1 → Ents w1 m.at_ m.es from fun w1 hb => hE.later hb)
 have c0 := HN.bx.c 0 _ rfl
 have e1 := HG.bx.c 1 _ rfl
 have e3 := HG.bx.c 3 _ rfl
 clear hM hE
 have HQ := hI_ (show hearP p m = termP p m by unfold hearP; rw [if_neg (by rintro (h | h | h | h); exact h h1; exact h2 h; exact h h3; exact h4 h), if_neg (by rw [hk]; decide), if_neg (by rw [hk]; decide), if_neg (by rw [hk]; decide), if_pos (by rw [hk]; decide)])
 have g1 : (((m.dst : Nat) : Int) == ((p.id : Nat) : Int)) = true := by first | (simp; done) | (simp; omega)
 have g1' : (((m.dst : Nat) : Int) != ((p.id : Nat) : Int)) = false := by first | (simp; done) | (simp; omega)
 have g2 : (((m.fr : Nat) : Int) == ((p.id : Nat) : Int)) = false := by first | (simp; done) | (simp; omega)
 have g2' : (((m.fr : Nat) : Int) != ((p.id : Nat) : Int)) = true := by first | (simp; done) | (simp; omega)
 have g4 : decide ((4611686018427387903 : Int) < (m.term : Int)) = false := by simp; omega
 have gk1 : (m.kind == 1) = false := by rw [hk]; rfl
 have gk2 : (m.kind == 2) = false := by rw [hk]; rfl
 have gk3 : (m.kind == 3) = false := by rw [hk]; rfl
 have gk4 : (m.kind == 4) = false := by rw [hk]; rfl
 have gk5 : (m.kind == 5) = false := by rw [hk]; rfl
 have gk6 : (m.kind == 6) = false := by rw [hk]; rfl
 have gk7 : (m.kind == 7) = true := by rw [hk]; rfl
 clear h1 hk
 go_enter Tryz.func14, Tryz.ntmps14
 go_wp2_with (first
  | (refine lCc rfl _ rfl rfl (ocA rfl) (by assumption) rfl ?_))
 refine (pMayIdR_any m.fr _).mono ?_
 rintro e w2 ⟨rfl, rfl⟩
 rw [show decide (1 ≤ m.fr ∧ m.fr ≤ 63) = true by simp; omega]
 go_wp2_with (first
  | (refine lCc rfl _ rfl rfl (ocA rfl) (by assumption) rfl ?_)
  | (refine lBk rfl _ rfl rfl nodeT HN rfl ?_)
  | (refine lBk rfl _ rfl rfl messT HG rfl ?_))
 have HSZ := hI_ HB.size
 refine (pHearInTerm_any p d hBd m hm hes hvb hnx hmt K _ (Nat.le_trans hK HB.size) HM (HEE.out _ HB)).mono ?_
 obtain ⟨P3, M3, h3⟩ : ∃ P3 M3, termP p m = (P3, M3) := ⟨_, _, rfl⟩
 have HQ2 := hI_ (HQ.out.trans h3)
 rw [h3]
 clear h3 HQ
 rintro e w6 ⟨D3, v, O, rfl, hm3, hC, hO, hb⟩
 replace HB := HB.trans (hb.mono HB.size)
 replace HR := HR.later hb
 replace HM := hm3
 replace hC := hC.mono HSZ.out
 simp only at hO HM
 have HO := hI_ hO
 clear hb hm3 hO HN HG
 go_wp2_with (first
  | (refine sBk rfl _ _ rfl rfl rfl nodeT HR rfl rfl rfl ?_; intro w' hk hg; replace HM := HM.grown hg (by have := hyn.out; omega) HR.bx.ty bNd; replace hC := hC.box hg HR.bx.ty boxNm; replace HB := bGr HB hg HB.size (by have := hyn.out; omega); replace HR := hk; clear hk hg))
 refine bodyPost_ret (v := .tuple #[ndV P3 D3, v]) (by rw [rBt Tryz.results14 _ rfl nodeT HR rfl]; rfl) rfl ?_
 rw [HQ2.out]
 exact ⟨D3, v, O, rfl, HM, hC, HO.out, HB⟩
end Go.Proofs.YtdcpiaoadbbdoaaGreat
