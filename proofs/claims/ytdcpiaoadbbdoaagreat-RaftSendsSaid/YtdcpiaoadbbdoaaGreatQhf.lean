/- What is foretold is heard. -/
import Derived.Test.YtdcpiaoadbbdoaaGreatBulk
import Derived.Test.YtdcpiaoadbbdoaaGreatQmb
set_option maxRecDepth 100000
set_option maxHeartbeats 16000000
namespace Go.Proofs.YtdcpiaoadbbdoaaGreat
open Go.RowKit

theorem pHearForetold_any (hRM : RmOk) (p : Pn) (d : Ad) (hBd : Bd p) (hvb : p.voices.length * 16 ≤ 140737488352900) (m : Mg) (hfr : m.fr < 18446744073709551616) (K : Nat) (w : World) (hK : K ≤ w.heap.size) (hM : NdM K w p d) :
 Calls Tryz.prog 38 #[ndV p d, mgV m] w (NmP K w (foretP p m)) := by
 obtain ⟨mkd, mfr, mds, mtm, mi, mlt, mco, mok, mes, msn, mat, mcp⟩ := m
 simp only at hfr
 obtain ⟨W, hW, B0, N0, Z0⟩ := nk_new w p d
 obtain ⟨Wm, ym, hWm, hym, Bm, HG, Zm⟩ := bk_new W (mgA ⟨mkd, mfr, mds, mtm, mi, mlt, mco, mok, mes, msn, mat, mcp⟩) 52
 obtain ⟨W1, y, hW1, hy, B1, HR, Z1⟩ := bk_new Wm znA 34
 have Bm' : Below W.heap.size W Wm := hym ▸ Bm
 have B1' : Below Wm.heap.size Wm W1 := hy ▸ B1
 have HB1 := B0.trans (Bm'.mono B0.size)
 have HN := (N0.later Bm').later B1'
 replace HG := HG.later B1'
 have HB := HB1.trans (B1'.mono HB1.size)
 have hyn := hI_ (show w.heap.size < y ∧ w.heap.size < ym ∧ ym < y by have := Z0.out; have := Zm.out; omega)
 clear B0 N0 B1 Bm Bm' B1' HB1
 unfold ndA at hW
 unfold mgA at hWm
 unfold znA at hW1
 have HM := hM.later HB
 obtain ⟨T1, hT1⟩ : ∃ T1, (p.term + 1) % 18446744073709551616 = T1 := ⟨_, rfl⟩
 have wT : IntKind.u64.wrap ((p.term : Int) + 1) = (T1 : Int) := by rw [IntKind.wrap_u64]; omega
 have HTT := hI_ hT1
 have HRM := hI_ hRM
 clear hM hRM hT1
 have c3 := HN.bx.c 3 _ rfl
 have c9 := HN.bx.c 9 _ rfl
 have e3 := HG.bx.c 3 _ rfl
 have e7 := HG.bx.c 7 _ rfl
 cases mok
 case true =>
  by_cases h1 : p.role = 1 ∧ mtm = T1
  case pos =>
   have g1 : (p.role == 1) = true := by simp [h1.1]
   have g2 : ((mtm : Int) == (T1 : Int)) = true := by simp; omega
   have HC2 := hI_ (show foretP p ⟨mkd, mfr, mds, mtm, mi, mlt, mco, true, mes, msn, mat, mcp⟩ = sayP p _ by unfold foretP; simp only [if_true]; rw [if_pos (by rw [HTT.out]; exact h1)])
   clear h1
   go_enter Tryz.func38, Tryz.ntmps38
   go_wp2_with (first
    | (refine lBk rfl _ rfl rfl nodeT HN rfl ?_)
    | (refine lBk rfl _ rfl rfl messT HG rfl ?_)
    | (refine lCc rfl _ rfl rfl (ocA rfl) (by assumption) rfl ?_))
   have HSZ := hI_ HB.size
   refine (pSay8_any HRM.out p d hBd hvb ⟨mkd, mfr, mds, mtm, mi, mlt, mco, true, mes, msn, mat, mcp⟩ hfr K _ (Nat.le_trans hK HB.size) HM).mono ?_
   obtain ⟨P3, M3, h3⟩ : ∃ P3 M3, sayP p ⟨mkd, mfr, mds, mtm, mi, mlt, mco, true, mes, msn, mat, mcp⟩ = (P3, M3) := ⟨_, _, rfl⟩
   have HQ := hI_ (HC2.out.trans h3)
   rw [h3]
   clear h3
   rintro e w6 ⟨D3, v, O, rfl, hm3, hC, hO, hb⟩
   replace HB := HB.trans (hb.mono HB.size)
   replace HR := HR.later hb
   replace HM := hm3
   replace hC := hC.mono HSZ.out
   simp only at hO HM
   have HO := hI_ hO
   clear hb hm3 hO HN HG
   go_wp2_with (first
    | (refine sBk rfl _ _ rfl rfl rfl nodeT HR rfl rfl rfl ?_; intro w' hk hg; replace HM := HM.grown hg (by have := hyn.out; omega) HR.bx.ty bNd; replace hC := hC.box hg HR.bx.ty boxNm; replace HB := bGr HB hg HB.size (by have := hyn.out; omega); replace HR := hk; clear hk hg))
   refine bodyPost_ret (v := .tuple #[ndV P3 D3, v]) (by rw [rBt Tryz.results38 _ rfl nodeT HR rfl]; rfl) rfl ?_
   rw [HQ.out]
   exact ⟨D3, v, O, rfl, HM, hC, HO.out, HB⟩
  case neg =>
   have HC2 := hI_ (show foretP p ⟨mkd, mfr, mds, mtm, mi, mlt, mco, true, mes, msn, mat, mcp⟩ = (p, []) by unfold foretP; simp only [if_true]; rw [if_neg (by rw [HTT.out]; exact h1), if_neg (by simp)])
   by_cases hr : p.role = 1
   case pos =>
    have g1 : (p.role == 1) = true := by simp [hr]
    have g2 : ((mtm : Int) == (T1 : Int)) = false := by simp; omega
    clear h1 hr
    go_enter Tryz.func38, Tryz.ntmps38
    go_wp2_with (first
     | (refine lBk rfl _ rfl rfl nodeT HN rfl ?_)
     | (refine lBk rfl _ rfl rfl messT HG rfl ?_)
     | (refine lCc rfl _ rfl rfl (ocA rfl) (by assumption) rfl ?_)
     | (refine sBk rfl _ _ rfl rfl rfl nodeT HR rfl rfl rfl ?_; intro w' hk hg; replace HM := HM.grown hg (by have := hyn.out; omega) HR.bx.ty bNd; replace HN := HN.grown hg (by have := hyn.out; omega); replace HB := bGr HB hg HB.size (by have := hyn.out; omega); replace HR := hk; clear hk hg))
    refine bodyPost_ret (v := .tuple #[ndV p d, .slice none 0 0]) (by rw [rBt Tryz.results38 _ rfl nodeT HR rfl]; rfl) rfl ?_
    rw [HC2.out]
    exact ⟨d, _, [], rfl, HM, CqG.nil _ _ none, rfl, HB⟩
   case neg =>
    have g1 : (p.role == 1) = false := by simp [hr]
    clear h1 hr
    go_enter Tryz.func38, Tryz.ntmps38
    go_wp2_with (first
     | (refine lBk rfl _ rfl rfl nodeT HN rfl ?_)
     | (refine lBk rfl _ rfl rfl messT HG rfl ?_)
     | (refine lCc rfl _ rfl rfl (ocA rfl) (by assumption) rfl ?_)
     | (refine sBk rfl _ _ rfl rfl rfl nodeT HR rfl rfl rfl ?_; intro w' hk hg; replace HM := HM.grown hg (by have := hyn.out; omega) HR.bx.ty bNd; replace HN := HN.grown hg (by have := hyn.out; omega); replace HB := bGr HB hg HB.size (by have := hyn.out; omega); replace HR := hk; clear hk hg))
    refine bodyPost_ret (v := .tuple #[ndV p d, .slice none 0 0]) (by rw [rBt Tryz.results38 _ rfl nodeT HR rfl]; rfl) rfl ?_
    rw [HC2.out]
    exact ⟨d, _, [], rfl, HM, CqG.nil _ _ none, rfl, HB⟩
 case false =>
  by_cases h1 : p.role = 1 ∧ mtm = p.term
  case pos =>
   have g1 : (p.role == 1) = true := by simp [h1.1]
   have g2 : ((mtm : Int) == (p.term : Int)) = true := by simp; omega
   have HC2 := hI_ (show foretP p ⟨mkd, mfr, mds, mtm, mi, mlt, mco, false, mes, msn, mat, mcp⟩ = sayP p _ by unfold foretP; simp only [if_false, Bool.false_eq_true]; rw [if_pos h1])
   clear h1
   go_enter Tryz.func38, Tryz.ntmps38
   go_wp2_with (first
    | (refine lBk rfl _ rfl rfl nodeT HN rfl ?_)
    | (refine lBk rfl _ rfl rfl messT HG rfl ?_)
    | (refine lCc rfl _ rfl rfl (ocA rfl) (by assumption) rfl ?_))
   have HSZ := hI_ HB.size
   refine (pSay8_any HRM.out p d hBd hvb ⟨mkd, mfr, mds, mtm, mi, mlt, mco, false, mes, msn, mat, mcp⟩ hfr K _ (Nat.le_trans hK HB.size) HM).mono ?_
   obtain ⟨P3, M3, h3⟩ : ∃ P3 M3, sayP p ⟨mkd, mfr, mds, mtm, mi, mlt, mco, false, mes, msn, mat, mcp⟩ = (P3, M3) := ⟨_, _, rfl⟩
   have HQ := hI_ (HC2.out.trans h3)
   rw [h3]
   clear h3
   rintro e w6 ⟨D3, v, O, rfl, hm3, hC, hO, hb⟩
   replace HB := HB.trans (hb.mono HB.size)
   replace HR := HR.later hb
   replace HM := hm3
   replace hC := hC.mono HSZ.out
   simp only at hO HM
   have HO := hI_ hO
   clear hb hm3 hO HN HG
   go_wp2_with (first
    | (refine sBk rfl _ _ rfl rfl rfl nodeT HR rfl rfl rfl ?_; intro w' hk hg; replace HM := HM.grown hg (by have := hyn.out; omega) HR.bx.ty bNd; replace hC := hC.box hg HR.bx.ty boxNm; replace HB := bGr HB hg HB.size (by have := hyn.out; omega); replace HR := hk; clear hk hg))
   refine bodyPost_ret (v := .tuple #[ndV P3 D3, v]) (by rw [rBt Tryz.results38 _ rfl nodeT HR rfl]; rfl) rfl ?_
   rw [HQ.out]
   exact ⟨D3, v, O, rfl, HM, hC, HO.out, HB⟩
  case neg =>
   by_cases h2 : p.term < mtm
   case pos =>
    have HC2 := hI_ (show foretP p ⟨mkd, mfr, mds, mtm, mi, mlt, mco, false, mes, msn, mat, mcp⟩ = (followP p mtm, []) by unfold foretP; simp only [if_false, Bool.false_eq_true]; rw [if_neg h1, if_pos (by first | exact ⟨rfl, h2⟩ | exact ⟨trivial, h2⟩)])
    have g3 : (p.term : Int) < (mtm : Int) := by omega
    by_cases hr : p.role = 1
    case pos =>
     have g1 : (p.role == 1) = true := by simp [hr]
     have g2 : ((mtm : Int) == (p.term : Int)) = false := by simp; omega
     clear h1 hr h2
     go_enter Tryz.func38, Tryz.ntmps38
     go_wp2_with (first
      | (refine lBk rfl _ rfl rfl nodeT HN rfl ?_)
      | (refine lBk rfl _ rfl rfl messT HG rfl ?_)
      | (refine lCc rfl _ rfl rfl (ocA rfl) (by assumption) rfl ?_))
     refine (pFollow_any p d mtm K _ HM).mono ?_
     obtain ⟨P3, h3⟩ : ∃ P3, followP p mtm = P3 := ⟨_, rfl⟩
     rw [h3]
     have HQ := hI_ (HC2.out.trans (show (followP p mtm, ([] : List Mg)) = (P3, []) by rw [h3]))
     clear h3
     rintro e w5 ⟨D2, rfl, hm2, hb⟩
     replace HB := HB.trans (hb.mono HB.size)
     replace HR := HR.later hb
     replace HM := hm2
     clear hb hm2 HN HG
     go_wp2_with (first
      | (refine sBk rfl _ _ rfl rfl rfl nodeT HR rfl rfl rfl ?_; intro w' hk hg; replace HM := HM.grown hg (by have := hyn.out; omega) HR.bx.ty bNd; replace HB := bGr HB hg HB.size (by have := hyn.out; omega); replace HR := hk; clear hk hg))
     refine bodyPost_ret (v := .tuple #[ndV P3 D2, .slice none 0 0]) (by rw [rBt Tryz.results38 _ rfl nodeT HR rfl]; rfl) rfl ?_
     rw [HQ.out]
     exact ⟨D2, _, [], rfl, HM, CqG.nil _ _ none, rfl, HB⟩
    case neg =>
     have g1 : (p.role == 1) = false := by simp [hr]
     clear h1 hr h2
     go_enter Tryz.func38, Tryz.ntmps38
     go_wp2_with (first
      | (refine lBk rfl _ rfl rfl nodeT HN rfl ?_)
      | (refine lBk rfl _ rfl rfl messT HG rfl ?_)
      | (refine lCc rfl _ rfl rfl (ocA rfl) (by assumption) rfl ?_))
     refine (pFollow_any p d mtm K _ HM).mono ?_
     obtain ⟨P3, h3⟩ : ∃ P3, followP p mtm = P3 := ⟨_, rfl⟩
     rw [h3]
     have HQ := hI_ (HC2.out.trans (show (followP p mtm, ([] : List Mg)) = (P3, []) by rw [h3]))
     clear h3
     rintro e w5 ⟨D2, rfl, hm2, hb⟩
     replace HB := HB.trans (hb.mono HB.size)
     replace HR := HR.later hb
     replace HM := hm2
     clear hb hm2 HN HG
     go_wp2_with (first
      | (refine sBk rfl _ _ rfl rfl rfl nodeT HR rfl rfl rfl ?_; intro w' hk hg; replace HM := HM.grown hg (by have := hyn.out; omega) HR.bx.ty bNd; replace HB := bGr HB hg HB.size (by have := hyn.out; omega); replace HR := hk; clear hk hg))
     refine bodyPost_ret (v := .tuple #[ndV P3 D2, .slice none 0 0]) (by rw [rBt Tryz.results38 _ rfl nodeT HR rfl]; rfl) rfl ?_
     rw [HQ.out]
     exact ⟨D2, _, [], rfl, HM, CqG.nil _ _ none, rfl, HB⟩
   case neg =>
    have HC2 := hI_ (show foretP p ⟨mkd, mfr, mds, mtm, mi, mlt, mco, false, mes, msn, mat, mcp⟩ = (p, []) by unfold foretP; simp only [if_false, Bool.false_eq_true]; rw [if_neg h1, if_neg (fun h => h2 h.2)])
    have g3 : ¬ (p.term : Int) < (mtm : Int) := by omega
    by_cases hr : p.role = 1
    case pos =>
     have g1 : (p.role == 1) = true := by simp [hr]
     have g2 : ((mtm : Int) == (p.term : Int)) = false := by simp; omega
     clear h1 hr h2
     go_enter Tryz.func38, Tryz.ntmps38
     go_wp2_with (first
      | (refine lBk rfl _ rfl rfl nodeT HN rfl ?_)
      | (refine lBk rfl _ rfl rfl messT HG rfl ?_)
      | (refine lCc rfl _ rfl rfl (ocA rfl) (by assumption) rfl ?_)
      | (refine sBk rfl _ _ rfl rfl rfl nodeT HR rfl rfl rfl ?_; intro w' hk hg; replace HM := HM.grown hg (by have := hyn.out; omega) HR.bx.ty bNd; replace HN := HN.grown hg (by have := hyn.out; omega); replace HB := bGr HB hg HB.size (by have := hyn.out; omega); replace HR := hk; clear hk hg))
     refine bodyPost_ret (v := .tuple #[ndV p d, .slice none 0 0]) (by rw [rBt Tryz.results38 _ rfl nodeT HR rfl]; rfl) rfl ?_
     rw [HC2.out]
     exact ⟨d, _, [], rfl, HM, CqG.nil _ _ none, rfl, HB⟩
    case neg =>
     have g1 : (p.role == 1) = false := by simp [hr]
     clear h1 hr h2
     go_enter Tryz.func38, Tryz.ntmps38
     go_wp2_with (first
      | (refine lBk rfl _ rfl rfl nodeT HN rfl ?_)
      | (refine lBk rfl _ rfl rfl messT HG rfl ?_)
      | (refine lCc rfl _ rfl rfl (ocA rfl) (by assumption) rfl ?_)
      | (refine sBk rfl _ _ rfl rfl rfl nodeT HR rfl rfl rfl ?_; intro w' hk hg; replace HM := HM.grown hg (by have := hyn.out; omega) HR.bx.ty bNd; replace HN := HN.grown hg (by have := hyn.out; omega); replace HB := bGr HB hg HB.size (by have := hyn.out; omega); replace HR := hk; clear hk hg))
     refine bodyPost_ret (v := .tuple #[ndV p d, .slice none 0 0]) (by rw [rBt Tryz.results38 _ rfl nodeT HR rfl]; rfl) rfl ?_
     rw [HC2.out]
     exact ⟨d, _, [], rfl, HM, CqG.nil _ _ none, rfl, HB⟩
end Go.Proofs.YtdcpiaoadbbdoaaGreat
