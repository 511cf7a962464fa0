/- An entry is offered. -/
import Derived.Test.YtdcpiaoadbbdoaaGreatBulk
import Derived.Test.YtdcpiaoadbbdoaaGreatQrm
import Derived.Test.YtdcpiaoadbbdoaaGreatQz
set_option maxRecDepth 100000
set_option maxHeartbeats 16000000
namespace Go.Proofs.YtdcpiaoadbbdoaaGreat
open Go.RowKit

def OcP (K : Nat) (w : World) (x : Int) (r : Pn × List Mg) (e : Ending) (w' : World) : Prop :=
 if x = 0 then ∃ d v O, e = .returned (.tuple #[ndV r.1 d, .int .u64 r.1.endI, v, .int .i64 0]) ∧ NdM K w' r.1 d ∧ CqG w.heap.size w' v O ∧ O.map Mg.pl = r.2 ∧ Below w.heap.size w w'
 else e = .returned (.tuple #[.agg znA, .int .u64 0, .slice none 0 0, .int .i64 x]) ∧ Below w.heap.size w w'
theorem OcP.no {K : Nat} {w : World} {x : Int} {r : Pn × List Mg} (h : ¬ x = 0) : ∀ w', Below w.heap.size w w' → OcP K w x r (.returned (.tuple #[.agg znA, .int .u64 0, .slice none 0 0, .int .i64 x])) w' := fun w' hb => by
 unfold OcP; rw [if_neg h]; exact ⟨rfl, hb⟩
theorem OcP.yes {K : Nat} {w : World} {x : Int} {r : Pn × List Mg} (h : x = 0) {P : Pn} {M : List Mg} (hr : r = (P, M)) : ∀ w' D v O, NdM K w' P D → CqG w.heap.size w' v O → O.map Mg.pl = M → Below w.heap.size w w' → OcP K w x r (.returned (.tuple #[ndV P D, .int .u64 P.endI, v, .int .i64 0])) w' := fun w' D v O h1 h2 h3 h4 => by
 subst hr
 unfold OcP; rw [if_pos h]; exact ⟨D, v, O, rfl, h1, h2, h3, h4⟩
theorem pOffer_1 (p : Pn) (d : Ad) (_ : Bd p) (_ : p.mat.length * 16 ≤ 140737488352900) (s : ByteArray) (_ : s.size ≤ 140737488351232) (K : Nat) (w : World) (_ : K ≤ w.heap.size) (hM : NdM K w p d) (h1 : ¬ p.role = 3) :
 Calls Tryz.prog 8 #[ndV p d, .string s] w (OcP K w (offX p s) (offP p s)) := by
 obtain ⟨W, hW, B0, N0, Z0⟩ := nk_new w p d
 obtain ⟨W1, y, hW1, hy, B1, HR, Z1⟩ := bk_new W znA 34
 have HN := N0.later (hy ▸ B1)
 have HB := B0.trans (B1.mono (by have := Z0.out; omega))
 have hyn := hI_ (show w.heap.size < y by have := Z0.out; omega)
 clear B0 N0 B1
 unfold ndA at hW
 unfold znA at hW1
 have HM := hM.later HB
 clear hM
 have e0 : offX p s = 10 := by unfold offX; rw [if_pos h1]
 have HX := hI_ (OcP.no (K := K) (w := w) (x := 10) (r := offP p s) (by decide))
 rw [e0]
 have g1 : (p.role == 3) = false := by simpa using h1
 have g1' : (p.role != 3) = true := by simpa using h1
 clear e0
 go_enter Tryz.func8, Tryz.ntmps8
 go_wp2_with (first
  | (refine lCc rfl _ rfl rfl (ocA rfl) (by assumption) rfl ?_)
  | (refine sBk rfl _ _ rfl rfl (M := znA.toList) rfl nodeT HR rfl rfl rfl ?_; intro w' hk hg; replace HN := HN.grown hg (by have := hyn.out; omega); replace HB := bGr HB hg HB.size (by have := hyn.out; omega); replace HR := hk; clear hk hg))
 refine bodyPost_ret (v := .tuple #[.agg znA, .int .u64 0, .slice none 0 0, .int .i64 (10)]) (by rw [results_bk_tmp3 Tryz.results8 _ rfl nodeT HR rfl]; rfl) rfl ?_
 exact HX.out _ HB
theorem pOffer_2 (p : Pn) (d : Ad) (_ : Bd p) (_ : p.mat.length * 16 ≤ 140737488352900) (s : ByteArray) (hs : s.size ≤ 140737488351232) (K : Nat) (w : World) (_ : K ≤ w.heap.size) (hM : NdM K w p d) (h1 : p.role = 3) (h2 : 4096 ≤ s.size) :
 Calls Tryz.prog 8 #[ndV p d, .string s] w (OcP K w (offX p s) (offP p s)) := by
 obtain ⟨W, hW, B0, N0, Z0⟩ := nk_new w p d
 obtain ⟨W1, y, hW1, hy, B1, HR, Z1⟩ := bk_new W znA 34
 have HN := N0.later (hy ▸ B1)
 have HB := B0.trans (B1.mono (by have := Z0.out; omega))
 have hyn := hI_ (show w.heap.size < y by have := Z0.out; omega)
 clear B0 N0 B1
 unfold ndA at hW
 unfold znA at hW1
 have HM := hM.later HB
 clear hM
 have e0 : offX p s = 4 := by unfold offX; rw [if_neg (fun h => h h1), if_pos h2]
 have HX := hI_ (OcP.no (K := K) (w := w) (x := 4) (r := offP p s) (by decide))
 rw [e0]
 have g1 : (p.role == 3) = true := by simp [h1]
 have g1' : (p.role != 3) = false := by simp [h1]
 have g2 : (4096 : Int) ≤ (s.size : Int) := by omega
 clear e0
 go_enter Tryz.func8, Tryz.ntmps8
 go_wp2_with (first
  | (refine lCc rfl _ rfl rfl (ocA rfl) (by assumption) rfl ?_)
  | (refine sBk rfl _ _ rfl rfl (M := znA.toList) rfl nodeT HR rfl rfl rfl ?_; intro w' hk hg; replace HN := HN.grown hg (by have := hyn.out; omega); replace HB := bGr HB hg HB.size (by have := hyn.out; omega); replace HR := hk; clear hk hg))
 refine bodyPost_ret (v := .tuple #[.agg znA, .int .u64 0, .slice none 0 0, .int .i64 (4)]) (by rw [results_bk_tmp3 Tryz.results8 _ rfl nodeT HR rfl]; rfl) rfl ?_
 exact HX.out _ HB
theorem pOffer_3 (p : Pn) (d : Ad) (hBd : Bd p) (_ : p.mat.length * 16 ≤ 140737488352900) (s : ByteArray) (hs : s.size ≤ 140737488351232) (K : Nat) (w : World) (hK : K ≤ w.heap.size) (hM : NdM K w p d) (h1 : p.role = 3) (h2 : ¬ 4096 ≤ s.size) (h0 : ¬ addX p (pre 100 s) = 0) :
 Calls Tryz.prog 8 #[ndV p d, .string s] w (OcP K w (offX p s) (offP p s)) := by
 obtain ⟨W, hW, B0, N0, Z0⟩ := nk_new w p d
 obtain ⟨W1, y, hW1, hy, B1, HR, Z1⟩ := bk_new W znA 34
 have HN := N0.later (hy ▸ B1)
 have HB := B0.trans (B1.mono (by have := Z0.out; omega))
 have hyn := hI_ (show w.heap.size < y by have := Z0.out; omega)
 clear B0 N0 B1
 unfold ndA at hW
 unfold znA at hW1
 have HM := hM.later HB
 clear hM
 have e0 : offX p s = addX p (pre 100 s) := by unfold offX; rw [if_neg (fun h => h h1), if_neg h2]
 rw [e0]
 have HX := hI_ (OcP.no (K := K) (w := w) (r := offP p s) h0)
 clear e0
 have g1 : (p.role == 3) = true := by simp [h1]
 have g1' : (p.role != 3) = false := by simp [h1]
 have g2 : ¬ (4096 : Int) ≤ (s.size : Int) := by omega
 have hz1 : (⟨#[100]⟩ : ByteArray).size = 1 := rfl
 have hps0 : (pre 100 s).size = (⟨#[100]⟩ : ByteArray).size + s.size := by unfold pre; rw [ByteArray.size_append]
 have hps : (pre 100 s).size ≤ 140737488351232 := by omega
 have HAD := hI_ (show ∀ w1, K ≤ w1.heap.size → NdM K w1 p d → Calls Tryz.prog 19 #[ndV p d, .string (⟨#[100]⟩ ++ s)] w1 (AdP K w1 p (pre 100 s)) from fun w1 h2 h3 => pAdd8_any p d hBd (pre 100 s) hps K w1 h2 h3)
 have hcc : ¬ (9223372036854775807 : Nat) < (⟨#[100]⟩ : ByteArray).size + s.size := by omega
 clear hps0 hz1
 go_enter Tryz.func8, Tryz.ntmps8
 go_wp2_with (first
  | (refine lCc rfl _ rfl rfl (ocA rfl) (by assumption) rfl ?_)
  | (refine lBk rfl _ rfl rfl nodeT HN rfl ?_))
 refine (HAD.out _ (Nat.le_trans hK HB.size) HM).mono ?_
 rintro e w2 hA
 unfold AdP at hA
 rw [if_neg h0] at hA
 generalize addX p (pre 100 s) = x at *
 obtain ⟨rfl, hb⟩ := hA
 have gx : (x == 0) = false := by simpa using h0
 have gx' : (x != 0) = true := by simpa using h0
 replace HB := HB.trans (hb.mono HB.size)
 replace HR := HR.later hb
 replace HN := HN.later hb
 clear hb HM
 go_wp2_with (first
  | (refine sBk rfl _ _ rfl rfl (M := znA.toList) rfl nodeT HN rfl rfl rfl ?_; intro w' hk hg; replace HR := HR.grown hg (by have := hyn.out; omega); replace HB := bGr HB hg HB.size (Nat.le_refl _); replace HN := hk; clear hk hg)
  | (refine sBk rfl _ _ rfl rfl (M := znA.toList) rfl nodeT HR rfl rfl rfl ?_; intro w' hk hg; replace HN := HN.grown hg (by have := hyn.out; omega); replace HB := bGr HB hg HB.size (by have := hyn.out; omega); replace HR := hk; clear hk hg))
 refine bodyPost_ret (v := .tuple #[.agg znA, .int .u64 0, .slice none 0 0, .int .i64 (x)]) (by rw [results_bk_tmp3 Tryz.results8 _ rfl nodeT HR rfl]; rfl) rfl ?_
 exact HX.out _ HB
theorem pOffer_4 (p : Pn) (d : Ad) (hBd : Bd p) (hmt : p.mat.length * 16 ≤ 140737488352900) (s : ByteArray) (hs : s.size ≤ 140737488351232) (K : Nat) (w : World) (hK : K ≤ w.heap.size) (hM : NdM K w p d) (h1 : p.role = 3) (h2 : ¬ 4096 ≤ s.size) (h0 : addX p (pre 100 s) = 0) :
 Calls Tryz.prog 8 #[ndV p d, .string s] w (OcP K w (offX p s) (offP p s)) := by
 obtain ⟨W, hW, B0, N0, Z0⟩ := nk_new w p d
 obtain ⟨W1, y, hW1, hy, B1, HR, Z1⟩ := bk_new W znA 34
 have HN := N0.later (hy ▸ B1)
 have HB := B0.trans (B1.mono (by have := Z0.out; omega))
 have hyn := hI_ (show w.heap.size < y by have := Z0.out; omega)
 clear B0 N0 B1
 unfold ndA at hW
 unfold znA at hW1
 have HM := hM.later HB
 clear hM
 have e0 : offX p s = 0 := by unfold offX; rw [if_neg (fun h => h h1), if_neg h2]; exact h0
 rw [e0]
 have g1 : (p.role == 3) = true := by simp [h1]
 have g1' : (p.role != 3) = false := by simp [h1]
 have g2 : ¬ (4096 : Int) ≤ (s.size : Int) := by omega
 have hz1 : (⟨#[100]⟩ : ByteArray).size = 1 := rfl
 have hps0 : (pre 100 s).size = (⟨#[100]⟩ : ByteArray).size + s.size := by unfold pre; rw [ByteArray.size_append]
 have hps : (pre 100 s).size ≤ 140737488351232 := by omega
 have HAD := hI_ (show ∀ w1, K ≤ w1.heap.size → NdM K w1 p d → Calls Tryz.prog 19 #[ndV p d, .string (⟨#[100]⟩ ++ s)] w1 (AdP K w1 p (pre 100 s)) from fun w1 h2 h3 => pAdd8_any p d hBd (pre 100 s) hps K w1 h2 h3)
 have hcc : ¬ (9223372036854775807 : Nat) < (⟨#[100]⟩ : ByteArray).size + s.size := by omega
 clear hps0 hz1
 have hb1 := bd_addP hBd hps h0 hmt
 obtain ⟨P1, hP1⟩ : ∃ P1, addP p (pre 100 s) = P1 := ⟨_, rfl⟩
 obtain ⟨P3, M3, h3⟩ : ∃ P3 M3, spreadP P1 = (P3, M3) := ⟨_, _, rfl⟩
 rw [hP1] at hb1
 have hb3 : Bd P3 := by have := bd_commit hb1; rw [show commitP P1 = P3 from congrArg Prod.fst h3] at this; exact this
 have HF := hI_ (OcP.yes (K := K) (w := w) (x := 0) (r := offP p s) rfl (P := P3) (M := M3) (by unfold offP; rw [hP1, h3]))
 have HSP := hI_ h3
 have HP1 := hI_ hP1
 clear e0 hP1 h3
 go_enter Tryz.func8, Tryz.ntmps8
 go_wp2_with (first
  | (refine lCc rfl _ rfl rfl (ocA rfl) (by assumption) rfl ?_)
  | (refine lBk rfl _ rfl rfl nodeT HN rfl ?_))
 refine (HAD.out _ (Nat.le_trans hK HB.size) HM).mono ?_
 rintro e w2 hA
 unfold AdP at hA
 rw [if_pos h0, HP1.out] at hA
 obtain ⟨D1, rfl, hm1, hb⟩ := hA
 replace HB := HB.trans (hb.mono HB.size)
 replace HR := HR.later hb
 replace HN := HN.later hb
 replace HM := hm1
 clear hb hm1
 go_wp2_with (first
  | (refine sBk rfl _ _ rfl rfl rfl nodeT HN rfl rfl rfl ?_; intro w' hk hg; replace HR := HR.grown hg (by have := hyn.out; omega); replace HM := HM.grown hg hK HN.bx.ty bNd; replace HB := bGr HB hg HB.size (Nat.le_refl _); replace HN := hk; clear hk hg)
  | (refine lBk rfl _ rfl rfl nodeT HN rfl ?_))
 have HSZ := hI_ HB.size
 refine (pSpread_any P1 D1 hb1 K _ (Nat.le_trans hK HB.size) HM).mono ?_
 rw [HSP.out]
 rintro e w6 ⟨D3, v, O, rfl, hm3, hC, hO, hb⟩
 replace HB := HB.trans (hb.mono HB.size)
 replace HR := HR.later hb
 replace HN := HN.later hb
 replace HM := hm3
 replace hC := hC.mono HSZ.out
 simp only at hO HM
 have HO := hI_ hO
 clear hb hm3 hO
 go_wp2_with (first
  | (refine sBk rfl _ _ rfl rfl rfl nodeT HN rfl rfl rfl ?_; intro w' hk hg; replace HR := HR.grown hg (by have := hyn.out; omega); replace HM := HM.grown hg hK HN.bx.ty bNd; replace hC := hC.box hg HN.bx.ty boxNm; replace HB := bGr HB hg HB.size (Nat.le_refl _); replace HN := hk; clear hk hg))
 replace HR := HR.later ((Below.refl _ _).drew)
 replace hC := hC.later ((Below.refl _ _).drew)
 refine wp_region_held_drew (S := fun w' => Bk w' w.heap.size 34 (ndL P3 D3) ∧ NdM K w' P3 D3 ∧ Below w.heap.size w w') (by kernel_rfl) (⟨HN.later ((Below.refl _ _).drew), HM.later ((Below.refl _ _).drew), HB.drew⟩) (fun HS => ?_)
 refine tkh (i := 0) (v := (.agg (ndL P3 D3).toArray)) rfl ⟨by rfl, fun _ hSw => eLb _ rfl rfl nodeT hSw.1 rfl⟩ HS ?_
 refine tkh (i := 1) (v := (.agg (ndL P3 D3).toArray)) rfl ⟨by rfl, fun _ hSw => eLb _ rfl rfl nodeT hSw.1 rfl⟩ HS ?_
 try simp only [ly, Act.put]
 refine tkp (i := 3) rfl HS ?_
 try simp only [ly, Act.put]
 refine onh (r := 2) (by kernel_rfl) rfl (fun KK hK => ?_)
 go_simp
 refine (pEndW_any P3 D3 hb3.base hb3.ents K _ HS.2.1).mono ?_
 rintro e w7 ⟨rfl, hb⟩
 replace HR := HR.later hb
 replace hC := hC.later hb
 go_wp2_with fail
 refine hK.out _ _ ⟨HS.1.later hb, HS.2.1.later hb, HS.2.2.trans (hb.mono HS.2.2.size)⟩ (fun HS => ?_)
 clear hK
 try simp only [ly, Act.put]
 refine onh (r := 4) (by kernel_rfl) rfl (fun KK hK => ?_)
 rw [if_pos (by rfl)]
 refine wSb _ _ rfl rfl (M := ndL P3 D3) rfl nodeT HR rfl rfl rfl ?_
 intro w' hk hg
 have HS9 := And.intro (HS.1.grown hg (by have := hyn.out; omega)) (And.intro (HS.2.1.grown hg (by have := hyn.out; omega) HR.bx.ty bNd) (bGr HS.2.2 hg HS.2.2.size (by have := hyn.out; omega)))
 replace hC := hC.box hg HR.bx.ty boxNm
 replace HR := hk
 clear hk hg
 refine hK.out _ _ HS9 (fun HS => ?_)
 clear HS9
 clear hK
 try simp only [ly, Act.put]
 refine tkp (i := 5) rfl HS ?_
 try simp only [ly, Act.put]
 refine tkp (i := 6) rfl HS ?_
 try simp only [ly, Act.put]
 refine tkp (i := 7) rfl HS ?_
 try simp only [ly, Act.put]
 refine wpAnyH_done (by kernel_rfl) ?_ _
 go_wp2_with fail
 refine bodyPost_ret (v := .tuple #[ndV P3 D3, .int .u64 P3.endI, v, .int .i64 0]) (by rw [results_bk_tmp3 Tryz.results8 _ rfl nodeT HR rfl]; rfl) rfl ?_
 exact HF.out _ _ _ _ HS.2.1 hC HO.out HS.2.2
theorem pOffer_any (p : Pn) (d : Ad) (hBd : Bd p) (hmt : p.mat.length * 16 ≤ 140737488352900) (s : ByteArray) (hs : s.size ≤ 140737488351232) (K : Nat) (w : World) (hK : K ≤ w.heap.size) (hM : NdM K w p d) :
 Calls Tryz.prog 8 #[ndV p d, .string s] w (OcP K w (offX p s) (offP p s)) := by
 by_cases h1 : p.role = 3
 · by_cases h2 : 4096 ≤ s.size
   · exact pOffer_2 p d hBd hmt s hs K w hK hM h1 h2
   · by_cases h0 : addX p (pre 100 s) = 0
     · exact pOffer_4 p d hBd hmt s hs K w hK hM h1 h2 h0
     · exact pOffer_3 p d hBd hmt s hs K w hK hM h1 h2 h0
 · exact pOffer_1 p d hBd hmt s hs K w hK hM h1
end Go.Proofs.YtdcpiaoadbbdoaaGreat
