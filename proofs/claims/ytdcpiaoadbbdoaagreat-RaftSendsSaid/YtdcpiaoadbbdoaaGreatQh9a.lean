/- A message that counts only in its term: some cases. -/
import Derived.Test.YtdcpiaoadbbdoaaGreatBulk
import Derived.Test.YtdcpiaoadbbdoaaGreatQh9b
set_option maxRecDepth 100000
set_option maxHeartbeats 16000000
namespace Go.Proofs.YtdcpiaoadbbdoaaGreat
open Go.RowKit

theorem pHearTerm_a05 (p : Pn) (d : Ad) (hBd : Bd p) (m : Mg) (hm : Bm m) (hes : p.g.L.length + m.es.length ≤ 9000000000000) (hvb : p.voices.length * 16 ≤ 140737488352900) (hnx : p.next.length * 16 ≤ 140737488352900) (hmt : p.mat.length * 16 ≤ 140737488352900) (K : Nat) (w : World) (hK : K ≤ w.heap.size) (hM : NdM K w p d) (hE : Ents w m.at_ m.es) (hup : ¬ p.term < m.term) (hk : m.kind = 5) (hlt : m.term < (upP p m.term).term) :
 Calls Tryz.prog 39 #[ndV p d, mgV m] w (NmP K w (termP p m)) := by
 obtain ⟨W, hW, B0, N0, Z0⟩ := nk_new w p d
 obtain ⟨Wm, ym, hWm, hym, Bm, HG, Zm⟩ := bk_new W (mgA m) 52
 obtain ⟨W1, y, hW1, hy, B1, HR, Z1⟩ := bk_new Wm znA 34
 have Bm' : Below W.heap.size W Wm := hym ▸ Bm
 have B1' : Below Wm.heap.size Wm W1 := hy ▸ B1
 have HB1 := B0.trans (Bm'.mono B0.size)
 have HN := (N0.later Bm').later B1'
 replace HG := HG.later B1'
 have HB := HB1.trans (B1'.mono HB1.size)
 have hyn := hI_ (show w.heap.size < y ∧ w.heap.size < ym ∧ ym < y by have := Z0.out; have := Zm.out; omega)
 clear B0 N0 B1 Bm Bm' B1' HB1
 unfold ndA at hW
 unfold mgA at hWm
 unfold znA at hW1
 have HM := hM.later HB
 obtain ⟨U, hU⟩ : ∃ U : Pn, U = upP p m.term := ⟨_, rfl⟩
 have HUE := hI_ hU
 have HKK := hI_ hK
 have hut : m.term < 18446744073709551616 := hm.term
 have hBU : Bd U := by
  rw [hU]; unfold upP; by_cases h9 : p.term < m.term
  · rw [if_pos h9]; exact bd_follow hBd hut
  · rw [if_neg h9]; exact hBd
 have hgU : U.g = p.g := by rw [hU]; unfold upP; by_cases h9 : p.term < m.term; rw [if_pos h9]; rfl; rw [if_neg h9]
 have hesU : U.g.L.length + m.es.length ≤ 9000000000000 := by rw [hgU]; exact hes
 have hvU : U.voices.length * 16 ≤ 140737488352900 := by
  rw [hU]; unfold upP; by_cases h9 : p.term < m.term
  · rw [if_pos h9]; simp [followP]
  · rw [if_neg h9]; exact hvb
 have hnU : U.next.length * 16 ≤ 140737488352900 := by
  rw [hU]; unfold upP; by_cases h9 : p.term < m.term
  · rw [if_pos h9]; simp [followP]
  · rw [if_neg h9]; exact hnx
 have hmU : U.mat.length * 16 ≤ 140737488352900 := by
  rw [hU]; unfold upP; by_cases h9 : p.term < m.term
  · rw [if_pos h9]; simp [followP]
  · rw [if_neg h9]; exact hmt
 have HEE := hI_ (show ∀ w1, Below w.heap.size w w1 → Ents w1 m.at_ m.es from fun w1 hb => hE.later hb)
 have HQT := hI_ (show termP p m = if m.term < U.term ∧ (m.kind = 5 ∨ m.kind = 6) then (U, [replyG U m.fr false U.endI])
 else if m.term < U.term ∨ ((m.kind = 5 ∨ m.kind = 6) ∧ U.role = 3) then (U, [])
 else if m.kind = 5 then joinP (heardP U m.fr) m
 else if m.kind = 6 then instP (heardP U m.fr) m
 else if m.kind = 7 then replyP U m
 else if U.role = 2 then sayP U m else (U, []) by rw [hU]; rfl)
 rw [← hU] at hlt
 clear hM hE hU hgU
 have HQ := hI_ (show termP p m = (U, [replyG U m.fr false U.endI]) by rw [HQT.out, if_pos ⟨hlt, (.inl hk)⟩])
 have gk5 : (m.kind == 5) = true := by rw [hk]; rfl
 have gk6 : (m.kind == 6) = false := by rw [hk]; rfl
 have gk7 : (m.kind == 7) = false := by rw [hk]; rfl
 have gl : (m.term : Int) < (U.term : Int) := by omega
 clear hk
 go_enter Tryz.func39, Tryz.ntmps39
 have gt : ¬ (p.term : Int) < (m.term : Int) := by omega
 have HUF := hI_ (show U = p by rw [HUE.out]; unfold upP; rw [if_neg hup])
 obtain ⟨D, hD⟩ : ∃ D, D = d := ⟨_, rfl⟩
 replace HN : Bk W1 w.heap.size 34 (ndL U D) := by rw [HUF.out, hD]; exact HN
 replace HM : NdM K W1 U D := by rw [HUF.out, hD]; exact HM
 have gtU : ¬ (U.term : Int) < (m.term : Int) := by rw [HUF.out]; omega
 clear hD
 have cm0 := HG.bx.c 0 _ rfl
 go_wp2_with (first
  | (refine lCc rfl _ rfl rfl (ocA rfl) (by assumption) rfl ?_))
 replace HR := HR.later ((Below.refl _ _).drew)
 refine wp_region_held_drew (S := fun w' => Bk w' w.heap.size 34 (ndL U D) ∧ Bk w' ym 52 (mgC m) ∧ NdM K w' U D ∧ Below w.heap.size w w') (by kernel_rfl) (⟨HN.later ((Below.refl _ _).drew), HG.later ((Below.refl _ _).drew), HM.later ((Below.refl _ _).drew), HB.drew⟩) (fun HS => ?_)
 refine tkh (i := 0) (v := (.agg (ndL U D).toArray)) rfl ⟨by rfl, fun _ hSw => eLb _ rfl rfl nodeT hSw.1 rfl⟩ HS ?_
 refine tkh (i := 1) (v := (.agg (ndL U D).toArray)) rfl ⟨by rfl, fun _ hSw => eLb _ rfl rfl nodeT hSw.1 rfl⟩ HS ?_
 try simp only [ly, Act.put]
 refine tkp (i := 2) rfl HS ?_
 refine tkh (i := 3) (v := (.int .u64 m.fr)) rfl ⟨by rfl, fun _ hSw => exec_load_c _ rfl rfl ocU hSw.2.1 rfl⟩ HS ?_
 refine tkh (i := 4) (v := (.agg (ndL U D).toArray)) rfl ⟨by rfl, fun _ hSw => eLb _ rfl rfl nodeT hSw.1 rfl⟩ HS ?_
 try simp only [ly, Act.put]
 refine onh (r := 5) (by kernel_rfl) rfl (fun KK hK => ?_)
 go_simp
 refine (pEnd_any U D hBU K _ HS.2.2.1).mono ?_
 rintro e w4 ⟨rfl, hb⟩
 replace HR := HR.later hb
 go_wp2_with fail
 refine hK.out _ _ ⟨HS.1.later hb, HS.2.1.later hb, HS.2.2.1.later hb, HS.2.2.2.trans (hb.mono HS.2.2.2.size)⟩ (fun HS => ?_)
 clear hK
 try simp only [ly, Act.put]
 refine onh (r := 6) (by kernel_rfl) rfl (fun KK hK => ?_)
 go_simp
 refine (pReply_any U D m.fr false U.endI _).mono ?_
 rintro e w5 ⟨v, O, rfl, hC, hO, hb⟩
 have HC := hC.mono HS.2.2.2.size
 have HO := hI_ hO
 clear hC hO
 replace HR := HR.later hb
 go_wp2_with fail
 refine hK.out _ _ ⟨HS.1.later hb, HS.2.1.later hb, HS.2.2.1.later hb, HS.2.2.2.trans (hb.mono HS.2.2.2.size)⟩ (fun HS => ?_)
 clear hK
 try simp only [ly, Act.put]
 refine onh (r := 7) (by kernel_rfl) rfl (fun KK hK => ?_)
 rw [if_pos (by rfl)]
 refine wSb _ _ rfl rfl (M := ndL U D) rfl nodeT HR rfl rfl rfl ?_
 intro w' hk hg
 have HS9 := And.intro (HS.1.grown hg (by have := hyn.out; omega)) (And.intro (HS.2.1.grown hg (by have := hyn.out; omega)) (And.intro (HS.2.2.1.grown hg (by have := hyn.out; omega) HR.bx.ty bNd) (bGr HS.2.2.2 hg HS.2.2.2.size (by have := hyn.out; omega))))
 replace HC := HC.box hg HR.bx.ty boxNm
 replace HR := hk
 clear hk hg
 refine hK.out _ _ HS9 (fun HS => ?_)
 clear HS9
 clear hK
 try simp only [ly, Act.put]
 refine tkp (i := 8) rfl HS ?_
 try simp only [ly, Act.put]
 refine wpAnyH_done (by kernel_rfl) ?_ _
 go_wp2_with fail
 refine bodyPost_ret (v := .tuple #[ndV U D, v]) (by rw [rBt Tryz.results39 _ rfl nodeT HR rfl]; rfl) rfl ?_
 rw [HQ.out]
 exact ⟨D, v, O, rfl, HS.2.2.1, HC, HO.out, HS.2.2.2⟩
theorem pHearTerm_a06 (p : Pn) (d : Ad) (hBd : Bd p) (m : Mg) (hm : Bm m) (hes : p.g.L.length + m.es.length ≤ 9000000000000) (hvb : p.voices.length * 16 ≤ 140737488352900) (hnx : p.next.length * 16 ≤ 140737488352900) (hmt : p.mat.length * 16 ≤ 140737488352900) (K : Nat) (w : World) (hK : K ≤ w.heap.size) (hM : NdM K w p d) (hE : Ents w m.at_ m.es) (hup : ¬ p.term < m.term) (hk : m.kind = 6) (hlt : m.term < (upP p m.term).term) :
 Calls Tryz.prog 39 #[ndV p d, mgV m] w (NmP K w (termP p m)) := by
 obtain ⟨W, hW, B0, N0, Z0⟩ := nk_new w p d
 obtain ⟨Wm, ym, hWm, hym, Bm, HG, Zm⟩ := bk_new W (mgA m) 52
 obtain ⟨W1, y, hW1, hy, B1, HR, Z1⟩ := bk_new Wm znA 34
 have Bm' : Below W.heap.size W Wm := hym ▸ Bm
 have B1' : Below Wm.heap.size Wm W1 := hy ▸ B1
 have HB1 := B0.trans (Bm'.mono B0.size)
 have HN := (N0.later Bm').later B1'
 replace HG := HG.later B1'
 have HB := HB1.trans (B1'.mono HB1.size)
 have hyn := hI_ (show w.heap.size < y ∧ w.heap.size < ym ∧ ym < y by have := Z0.out; have := Zm.out; omega)
 clear B0 N0 B1 Bm Bm' B1' HB1
 unfold ndA at hW
 unfold mgA at hWm
 unfold znA at hW1
 have HM := hM.later HB
 obtain ⟨U, hU⟩ : ∃ U : Pn, U = upP p m.term := ⟨_, rfl⟩
 have HUE := hI_ hU
 have HKK := hI_ hK
 have hut : m.term < 18446744073709551616 := hm.term
 have hBU : Bd U := by
  rw [hU]; unfold upP; by_cases h9 : p.term < m.term
  · rw [if_pos h9]; exact bd_follow hBd hut
  · rw [if_neg h9]; exact hBd
 have hgU : U.g = p.g := by rw [hU]; unfold upP; by_cases h9 : p.term < m.term; rw [if_pos h9]; rfl; rw [if_neg h9]
 have hesU : U.g.L.length + m.es.length ≤ 9000000000000 := by rw [hgU]; exact hes
 have hvU : U.voices.length * 16 ≤ 140737488352900 := by
  rw [hU]; unfold upP; by_cases h9 : p.term < m.term
  · rw [if_pos h9]; simp [followP]
  · rw [if_neg h9]; exact hvb
 have hnU : U.next.length * 16 ≤ 140737488352900 := by
  rw [hU]; unfold upP; by_cases h9 : p.term < m.term
  · rw [if_pos h9]; simp [followP]
  · rw [if_neg h9]; exact hnx
 have hmU : U.mat.length * 16 ≤ 140737488352900 := by
  rw [hU]; unfold upP; by_cases h9 : p.term < m.term
  · rw [if_pos h9]; simp [followP]
  · rw [if_neg h9]; exact hmt
 have HEE := hI_ (show ∀ w1, Below w.heap.size w w1 → Ents w1 m.at_ m.es from fun w1 hb => hE.later hb)
 have HQT := hI_ (show termP p m = if m.term < U.term ∧ (m.kind = 5 ∨ m.kind = 6) then (U, [replyG U m.fr false U.endI])
 else if m.term < U.term ∨ ((m.kind = 5 ∨ m.kind = 6) ∧ U.role = 3) then (U, [])
 else if m.kind = 5 then joinP (heardP U m.fr) m
 else if m.kind = 6 then instP (heardP U m.fr) m
 else if m.kind = 7 then replyP U m
 else if U.role = 2 then sayP U m else (U, []) by rw [hU]; rfl)
 rw [← hU] at hlt
 clear hM hE hU hgU
 have HQ := hI_ (show termP p m = (U, [replyG U m.fr false U.endI]) by rw [HQT.out, if_pos ⟨hlt, (.inr hk)⟩])
 have gk5 : (m.kind == 5) = false := by rw [hk]; rfl
 have gk6 : (m.kind == 6) = true := by rw [hk]; rfl
 have gk7 : (m.kind == 7) = false := by rw [hk]; rfl
 have gl : (m.term : Int) < (U.term : Int) := by omega
 clear hk
 go_enter Tryz.func39, Tryz.ntmps39
 have gt : ¬ (p.term : Int) < (m.term : Int) := by omega
 have HUF := hI_ (show U = p by rw [HUE.out]; unfold upP; rw [if_neg hup])
 obtain ⟨D, hD⟩ : ∃ D, D = d := ⟨_, rfl⟩
 replace HN : Bk W1 w.heap.size 34 (ndL U D) := by rw [HUF.out, hD]; exact HN
 replace HM : NdM K W1 U D := by rw [HUF.out, hD]; exact HM
 have gtU : ¬ (U.term : Int) < (m.term : Int) := by rw [HUF.out]; omega
 clear hD
 have cm0 := HG.bx.c 0 _ rfl
 go_wp2_with (first
  | (refine lCc rfl _ rfl rfl (ocA rfl) (by assumption) rfl ?_))
 replace HR := HR.later ((Below.refl _ _).drew)
 refine wp_region_held_drew (S := fun w' => Bk w' w.heap.size 34 (ndL U D) ∧ Bk w' ym 52 (mgC m) ∧ NdM K w' U D ∧ Below w.heap.size w w') (by kernel_rfl) (⟨HN.later ((Below.refl _ _).drew), HG.later ((Below.refl _ _).drew), HM.later ((Below.refl _ _).drew), HB.drew⟩) (fun HS => ?_)
 refine tkh (i := 0) (v := (.agg (ndL U D).toArray)) rfl ⟨by rfl, fun _ hSw => eLb _ rfl rfl nodeT hSw.1 rfl⟩ HS ?_
 refine tkh (i := 1) (v := (.agg (ndL U D).toArray)) rfl ⟨by rfl, fun _ hSw => eLb _ rfl rfl nodeT hSw.1 rfl⟩ HS ?_
 try simp only [ly, Act.put]
 refine tkp (i := 2) rfl HS ?_
 refine tkh (i := 3) (v := (.int .u64 m.fr)) rfl ⟨by rfl, fun _ hSw => exec_load_c _ rfl rfl ocU hSw.2.1 rfl⟩ HS ?_
 refine tkh (i := 4) (v := (.agg (ndL U D).toArray)) rfl ⟨by rfl, fun _ hSw => eLb _ rfl rfl nodeT hSw.1 rfl⟩ HS ?_
 try simp only [ly, Act.put]
 refine onh (r := 5) (by kernel_rfl) rfl (fun KK hK => ?_)
 go_simp
 refine (pEnd_any U D hBU K _ HS.2.2.1).mono ?_
 rintro e w4 ⟨rfl, hb⟩
 replace HR := HR.later hb
 go_wp2_with fail
 refine hK.out _ _ ⟨HS.1.later hb, HS.2.1.later hb, HS.2.2.1.later hb, HS.2.2.2.trans (hb.mono HS.2.2.2.size)⟩ (fun HS => ?_)
 clear hK
 try simp only [ly, Act.put]
 refine onh (r := 6) (by kernel_rfl) rfl (fun KK hK => ?_)
 go_simp
 refine (pReply_any U D m.fr false U.endI _).mono ?_
 rintro e w5 ⟨v, O, rfl, hC, hO, hb⟩
 have HC := hC.mono HS.2.2.2.size
 have HO := hI_ hO
 clear hC hO
 replace HR := HR.later hb
 go_wp2_with fail
 refine hK.out _ _ ⟨HS.1.later hb, HS.2.1.later hb, HS.2.2.1.later hb, HS.2.2.2.trans (hb.mono HS.2.2.2.size)⟩ (fun HS => ?_)
 clear hK
 try simp only [ly, Act.put]
 refine onh (r := 7) (by kernel_rfl) rfl (fun KK hK => ?_)
 rw [if_pos (by rfl)]
 refine wSb _ _ rfl rfl (M := ndL U D) rfl nodeT HR rfl rfl rfl ?_
 intro w' hk hg
 have HS9 := And.intro (HS.1.grown hg (by have := hyn.out; omega)) (And.intro (HS.2.1.grown hg (by have := hyn.out; omega)) (And.intro (HS.2.2.1.grown hg (by have := hyn.out; omega) HR.bx.ty bNd) (bGr HS.2.2.2 hg HS.2.2.2.size (by have := hyn.out; omega))))
 replace HC := HC.box hg HR.bx.ty boxNm
 replace HR := hk
 clear hk hg
 refine hK.out _ _ HS9 (fun HS => ?_)
 clear HS9
 clear hK
 try simp only [ly, Act.put]
 refine tkp (i := 8) rfl HS ?_
 try simp only [ly, Act.put]
 refine wpAnyH_done (by kernel_rfl) ?_ _
 go_wp2_with fail
 refine bodyPost_ret (v := .tuple #[ndV U D, v]) (by rw [rBt Tryz.results39 _ rfl nodeT HR rfl]; rfl) rfl ?_
 rw [HQ.out]
 exact ⟨D, v, O, rfl, HS.2.2.1, HC, HO.out, HS.2.2.2⟩
end Go.Proofs.YtdcpiaoadbbdoaaGreat
