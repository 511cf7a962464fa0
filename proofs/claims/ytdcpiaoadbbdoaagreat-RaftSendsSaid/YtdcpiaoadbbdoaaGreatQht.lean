/- A message that counts only in its term: some cases. -/
import Derived.Test.YtdcpiaoadbbdoaaGreatBulk
import Derived.Test.YtdcpiaoadbbdoaaGreatQh9b
import Derived.Test.YtdcpiaoadbbdoaaGreatQh9a
set_option maxRecDepth 100000
set_option maxHeartbeats 16000000
namespace Go.Proofs.YtdcpiaoadbbdoaaGreat
open Go.RowKit

theorem pHearTerm_c05 (p : Pn) (d : Ad) (hBd : Bd p) (m : Mg) (hm : Bm m) (hes : p.g.L.length + m.es.length ≤ 9000000000000) (hvb : p.voices.length * 16 ≤ 140737488352900) (hnx : p.next.length * 16 ≤ 140737488352900) (hmt : p.mat.length * 16 ≤ 140737488352900) (K : Nat) (w : World) (hK : K ≤ w.heap.size) (hM : NdM K w p d) (hE : Ents w m.at_ m.es) (hup : ¬ p.term < m.term) (hk : m.kind = 5) (hlt : ¬ m.term < (upP p m.term).term) (hr : (upP p m.term).role = 3) :
 Calls Tryz.prog 39 #[ndV p d, mgV m] w (NmP K w (termP p m)) := by
 obtain ⟨W, hW, B0, N0, Z0⟩ := nk_new w p d
 obtain ⟨Wm, ym, hWm, hym, Bm, HG, Zm⟩ := bk_new W (mgA m) 52
 obtain ⟨W1, y, hW1, hy, B1, HR, Z1⟩ := bk_new Wm znA 34
 have Bm' : Below W.heap.size W Wm := hym ▸ Bm
 have B1' : Below Wm.heap.size Wm W1 := hy ▸ B1
 have HB1 := B0.trans (Bm'.mono B0.size)
 have HN := (N0.later Bm').later B1'
 replace HG := HG.later B1'
 have HB := HB1.trans (B1'.mono HB1.size)
 have hyn := hI_ (show w.heap.size < y ∧ w.heap.size < ym ∧ ym < y by have := Z0.out; have := Zm.out; omega)
 clear B0 N0 B1 Bm Bm' B1' HB1
 unfold ndA at hW
 unfold mgA at hWm
 unfold znA at hW1
 have HM := hM.later HB
 obtain ⟨U, hU⟩ : ∃ U : Pn, U = upP p m.term := ⟨_, rfl⟩
 have HUE := hI_ hU
 have HKK := hI_ hK
 have hut : m.term < 18446744073709551616 := hm.term
 have hBU : Bd U := by
  rw [hU]; unfold upP; by_cases h9 : p.term < m.term
  · rw [if_pos h9]; exact bd_follow hBd hut
  · rw [if_neg h9]; exact hBd
 have hgU : U.g = p.g := by rw [hU]; unfold upP; by_cases h9 : p.term < m.term; rw [if_pos h9]; rfl; rw [if_neg h9]
 have hesU : U.g.L.length + m.es.length ≤ 9000000000000 := by rw [hgU]; exact hes
 have hvU : U.voices.length * 16 ≤ 140737488352900 := by
  rw [hU]; unfold upP; by_cases h9 : p.term < m.term
  · rw [if_pos h9]; simp [followP]
  · rw [if_neg h9]; exact hvb
 have hnU : U.next.length * 16 ≤ 140737488352900 := by
  rw [hU]; unfold upP; by_cases h9 : p.term < m.term
  · rw [if_pos h9]; simp [followP]
  · rw [if_neg h9]; exact hnx
 have hmU : U.mat.length * 16 ≤ 140737488352900 := by
  rw [hU]; unfold upP; by_cases h9 : p.term < m.term
  · rw [if_pos h9]; simp [followP]
  · rw [if_neg h9]; exact hmt
 have HEE := hI_ (show ∀ w1, Below w.heap.size w w1 → Ents w1 m.at_ m.es from fun w1 hb => hE.later hb)
 have HQT := hI_ (show termP p m = if m.term < U.term ∧ (m.kind = 5 ∨ m.kind = 6) then (U, [replyG U m.fr false U.endI])
 else if m.term < U.term ∨ ((m.kind = 5 ∨ m.kind = 6) ∧ U.role = 3) then (U, [])
 else if m.kind = 5 then joinP (heardP U m.fr) m
 else if m.kind = 6 then instP (heardP U m.fr) m
 else if m.kind = 7 then replyP U m
 else if U.role = 2 then sayP U m else (U, []) by rw [hU]; rfl)
 rw [← hU] at hlt
 rw [← hU] at hr
 clear hM hE hU hgU
 have HQ := hI_ (show termP p m = (U, []) by rw [HQT.out, if_neg (fun h => hlt h.1), if_pos (.inr ⟨(.inl hk), hr⟩)])
 have gk5 : (m.kind == 5) = true := by rw [hk]; rfl
 have gk6 : (m.kind == 6) = false := by rw [hk]; rfl
 have gk7 : (m.kind == 7) = false := by rw [hk]; rfl
 have gl : ¬ (m.term : Int) < (U.term : Int) := by omega
 have gr3 : (U.role == 3) = true := by simp [hr]
 clear hk
 go_enter Tryz.func39, Tryz.ntmps39
 have gt : ¬ (p.term : Int) < (m.term : Int) := by omega
 have HUF := hI_ (show U = p by rw [HUE.out]; unfold upP; rw [if_neg hup])
 obtain ⟨D, hD⟩ : ∃ D, D = d := ⟨_, rfl⟩
 replace HN : Bk W1 w.heap.size 34 (ndL U D) := by rw [HUF.out, hD]; exact HN
 replace HM : NdM K W1 U D := by rw [HUF.out, hD]; exact HM
 have gtU : ¬ (U.term : Int) < (m.term : Int) := by rw [HUF.out]; omega
 clear hD
 have cm0 := HG.bx.c 0 _ rfl
 have cr9 := HN.bx.c 9 _ rfl
 go_wp2_with (first
  | (refine lCc rfl _ rfl rfl (ocA rfl) (by assumption) rfl ?_)
  | (refine lBk rfl _ rfl rfl nodeT HN rfl ?_)
  | (refine sBk rfl _ _ rfl rfl rfl nodeT HR rfl rfl rfl ?_; intro w' hk hg; replace HN := HN.grown hg (by have := hyn.out; omega); replace HG := HG.grown hg (by have := hyn.out; omega); replace HM := HM.grown hg (by have := hyn.out; omega) HR.bx.ty bNd; replace HB := bGr HB hg HB.size (by have := hyn.out; omega); replace HR := hk; clear hk hg))
 refine bodyPost_ret (v := .tuple #[ndV U D, .slice none 0 0]) (by rw [rBt Tryz.results39 _ rfl nodeT HR rfl]; rfl) rfl ?_
 rw [HQ.out]
 exact ⟨D, _, [], rfl, HM, CqG.nil _ _ none, rfl, HB⟩
theorem pHearTerm_c06 (p : Pn) (d : Ad) (hBd : Bd p) (m : Mg) (hm : Bm m) (hes : p.g.L.length + m.es.length ≤ 9000000000000) (hvb : p.voices.length * 16 ≤ 140737488352900) (hnx : p.next.length * 16 ≤ 140737488352900) (hmt : p.mat.length * 16 ≤ 140737488352900) (K : Nat) (w : World) (hK : K ≤ w.heap.size) (hM : NdM K w p d) (hE : Ents w m.at_ m.es) (hup : ¬ p.term < m.term) (hk : m.kind = 6) (hlt : ¬ m.term < (upP p m.term).term) (hr : (upP p m.term).role = 3) :
 Calls Tryz.prog 39 #[ndV p d, mgV m] w (NmP K w (termP p m)) := by
 obtain ⟨W, hW, B0, N0, Z0⟩ := nk_new w p d
 obtain ⟨Wm, ym, hWm, hym, Bm, HG, Zm⟩ := bk_new W (mgA m) 52
 obtain ⟨W1, y, hW1, hy, B1, HR, Z1⟩ := bk_new Wm znA 34
 have Bm' : Below W.heap.size W Wm := hym ▸ Bm
 have B1' : Below Wm.heap.size Wm W1 := hy ▸ B1
 have HB1 := B0.trans (Bm'.mono B0.size)
 have HN := (N0.later Bm').later B1'
 replace HG := HG.later B1'
 have HB := HB1.trans (B1'.mono HB1.size)
 have hyn := hI_ (show w.heap.size < y ∧ w.heap.size < ym ∧ ym < y by have := Z0.out; have := Zm.out; omega)
 clear B0 N0 B1 Bm Bm' B1' HB1
 unfold ndA at hW
 unfold mgA at hWm
 unfold znA at hW1
 have HM := hM.later HB
 obtain ⟨U, hU⟩ : ∃ U : Pn, U = upP p m.term := ⟨_, rfl⟩
 have HUE := hI_ hU
 have HKK := hI_ hK
 have hut : m.term < 18446744073709551616 := hm.term
 have hBU : Bd U := by
  rw [hU]; unfold upP; by_cases h9 : p.term < m.term
  · rw [if_pos h9]; exact bd_follow hBd hut
  · rw [if_neg h9]; exact hBd
 have hgU : U.g = p.g := by rw [hU]; unfold upP; by_cases h9 : p.term < m.term; rw [if_pos h9]; rfl; rw [if_neg h9]
 have hesU : U.g.L.length + m.es.length ≤ 9000000000000 := by rw [hgU]; exact hes
 have hvU : U.voices.length * 16 ≤ 140737488352900 := by
  rw [hU]; unfold upP; by_cases h9 : p.term < m.term
  · rw [if_pos h9]; simp [followP]
  · rw [if_neg h9]; exact hvb
 have hnU : U.next.length * 16 ≤ 140737488352900 := by
  rw [hU]; unfold upP; by_cases h9 : p.term < m.term
  · rw [if_pos h9]; simp [followP]
  · rw [if_neg h9]; exact hnx
 have hmU : U.mat.length * 16 ≤ 140737488352900 := by
  rw [hU]; unfold upP; by_cases h9 : p.term < m.term
  · rw [if_pos h9]; simp [followP]
  · rw [if_neg h9]; exact hmt
 have HEE := hI_ (show ∀ w1, Below w.heap.size w w1 → Ents w1 m.at_ m.es from fun w1 hb => hE.later hb)
 have HQT := hI_ (show termP p m = if m.term < U.term ∧ (m.kind = 5 ∨ m.kind = 6) then (U, [replyG U m.fr false U.endI])
 else if m.term < U.term ∨ ((m.kind = 5 ∨ m.kind = 6) ∧ U.role = 3) then (U, [])
 else if m.kind = 5 then joinP (heardP U m.fr) m
 else if m.kind = 6 then instP (heardP U m.fr) m
 else if m.kind = 7 then replyP U m
 else if U.role = 2 then sayP U m else (U, []) by rw [hU]; rfl)
 rw [← hU] at hlt
 rw [← hU] at hr
 clear hM hE hU hgU
 have HQ := hI_ (show termP p m = (U, []) by rw [HQT.out, if_neg (fun h => hlt h.1), if_pos (.inr ⟨(.inr hk), hr⟩)])
 have gk5 : (m.kind == 5) = false := by rw [hk]; rfl
 have gk6 : (m.kind == 6) = true := by rw [hk]; rfl
 have gk7 : (m.kind == 7) = false := by rw [hk]; rfl
 have gl : ¬ (m.term : Int) < (U.term : Int) := by omega
 have gr3 : (U.role == 3) = true := by simp [hr]
 clear hk
 go_enter Tryz.func39, Tryz.ntmps39
 have gt : ¬ (p.term : Int) < (m.term : Int) := by omega
 have HUF := hI_ (show U = p by rw [HUE.out]; unfold upP; rw [if_neg hup])
 obtain ⟨D, hD⟩ : ∃ D, D = d := ⟨_, rfl⟩
 replace HN : Bk W1 w.heap.size 34 (ndL U D) := by rw [HUF.out, hD]; exact HN
 replace HM : NdM K W1 U D := by rw [HUF.out, hD]; exact HM
 have gtU : ¬ (U.term : Int) < (m.term : Int) := by rw [HUF.out]; omega
 clear hD
 have cm0 := HG.bx.c 0 _ rfl
 have cr9 := HN.bx.c 9 _ rfl
 go_wp2_with (first
  | (refine lCc rfl _ rfl rfl (ocA rfl) (by assumption) rfl ?_)
  | (refine lBk rfl _ rfl rfl nodeT HN rfl ?_)
  | (refine sBk rfl _ _ rfl rfl rfl nodeT HR rfl rfl rfl ?_; intro w' hk hg; replace HN := HN.grown hg (by have := hyn.out; omega); replace HG := HG.grown hg (by have := hyn.out; omega); replace HM := HM.grown hg (by have := hyn.out; omega) HR.bx.ty bNd; replace HB := bGr HB hg HB.size (by have := hyn.out; omega); replace HR := hk; clear hk hg))
 refine bodyPost_ret (v := .tuple #[ndV U D, .slice none 0 0]) (by rw [rBt Tryz.results39 _ rfl nodeT HR rfl]; rfl) rfl ?_
 rw [HQ.out]
 exact ⟨D, _, [], rfl, HM, CqG.nil _ _ none, rfl, HB⟩

theorem pHearTerm_g0 (p : Pn) (d : Ad) (hBd : Bd p) (m : Mg) (hm : Bm m) (hes : p.g.L.length + m.es.length ≤ 9000000000000) (hvb : p.voices.length * 16 ≤ 140737488352900) (hnx : p.next.length * 16 ≤ 140737488352900) (hmt : p.mat.length * 16 ≤ 140737488352900) (K : Nat) (w : World) (hK : K ≤ w.heap.size) (hM : NdM K w p d) (hE : Ents w m.at_ m.es) (hup : ¬ p.term < m.term) (hk5 : ¬ m.kind = 5) (hk6 : ¬ m.kind = 6) (hk7 : ¬ m.kind = 7) (hlt : ¬ m.term < (upP p m.term).term) (hr : (upP p m.term).role = 2) :
 Calls Tryz.prog 39 #[ndV p d, mgV m] w (NmP K w (termP p m)) := by
 obtain ⟨W, hW, B0, N0, Z0⟩ := nk_new w p d
 obtain ⟨Wm, ym, hWm, hym, Bm, HG, Zm⟩ := bk_new W (mgA m) 52
 obtain ⟨W1, y, hW1, hy, B1, HR, Z1⟩ := bk_new Wm znA 34
 have Bm' : Below W.heap.size W Wm := hym ▸ Bm
 have B1' : Below Wm.heap.size Wm W1 := hy ▸ B1
 have HB1 := B0.trans (Bm'.mono B0.size)
 have HN := (N0.later Bm').later B1'
 replace HG := HG.later B1'
 have HB := HB1.trans (B1'.mono HB1.size)
 have hyn := hI_ (show w.heap.size < y ∧ w.heap.size < ym ∧ ym < y by have := Z0.out; have := Zm.out; omega)
 clear B0 N0 B1 Bm Bm' B1' HB1
 unfold ndA at hW
 unfold mgA at hWm
 unfold znA at hW1
 have HM := hM.later HB
 obtain ⟨U, hU⟩ : ∃ U : Pn, U = upP p m.term := ⟨_, rfl⟩
 have HUE := hI_ hU
 have HKK := hI_ hK
 have hut : m.term < 18446744073709551616 := hm.term
 have hBU : Bd U := by
  rw [hU]; unfold upP; by_cases h9 : p.term < m.term
  · rw [if_pos h9]; exact bd_follow hBd hut
  · rw [if_neg h9]; exact hBd
 have hgU : U.g = p.g := by rw [hU]; unfold upP; by_cases h9 : p.term < m.term; rw [if_pos h9]; rfl; rw [if_neg h9]
 have hesU : U.g.L.length + m.es.length ≤ 9000000000000 := by rw [hgU]; exact hes
 have hvU : U.voices.length * 16 ≤ 140737488352900 := by
  rw [hU]; unfold upP; by_cases h9 : p.term < m.term
  · rw [if_pos h9]; simp [followP]
  · rw [if_neg h9]; exact hvb
 have hnU : U.next.length * 16 ≤ 140737488352900 := by
  rw [hU]; unfold upP; by_cases h9 : p.term < m.term
  · rw [if_pos h9]; simp [followP]
  · rw [if_neg h9]; exact hnx
 have hmU : U.mat.length * 16 ≤ 140737488352900 := by
  rw [hU]; unfold upP; by_cases h9 : p.term < m.term
  · rw [if_pos h9]; simp [followP]
  · rw [if_neg h9]; exact hmt
 have HEE := hI_ (show ∀ w1, Below w.heap.size w w1 → Ents w1 m.at_ m.es from fun w1 hb => hE.later hb)
 have HQT := hI_ (show termP p m = if m.term < U.term ∧ (m.kind = 5 ∨ m.kind = 6) then (U, [replyG U m.fr false U.endI])
 else if m.term < U.term ∨ ((m.kind = 5 ∨ m.kind = 6) ∧ U.role = 3) then (U, [])
 else if m.kind = 5 then joinP (heardP U m.fr) m
 else if m.kind = 6 then instP (heardP U m.fr) m
 else if m.kind = 7 then replyP U m
 else if U.role = 2 then sayP U m else (U, []) by rw [hU]; rfl)
 rw [← hU] at hlt
 rw [← hU] at hr
 clear hM hE hU hgU
 have HQ := hI_ (show termP p m = sayP U m by rw [HQT.out, if_neg (fun h => hlt h.1), if_neg (by rintro (h | ⟨h | h, _⟩); exact hlt h; exact hk5 h; exact hk6 h), if_neg hk5, if_neg hk6, if_neg hk7, if_pos hr])
 have gk5 : (m.kind == 5) = false := by simpa using hk5
 have gk6 : (m.kind == 6) = false := by simpa using hk6
 have gk7 : (m.kind == 7) = false := by simpa using hk7
 have gl : ¬ (m.term : Int) < (U.term : Int) := by omega
 have gr2 : (U.role == 2) = true := by simp [hr]
 go_enter Tryz.func39, Tryz.ntmps39
 have gt : ¬ (p.term : Int) < (m.term : Int) := by omega
 have HUF := hI_ (show U = p by rw [HUE.out]; unfold upP; rw [if_neg hup])
 obtain ⟨D, hD⟩ : ∃ D, D = d := ⟨_, rfl⟩
 replace HN : Bk W1 w.heap.size 34 (ndL U D) := by rw [HUF.out, hD]; exact HN
 replace HM : NdM K W1 U D := by rw [HUF.out, hD]; exact HM
 have gtU : ¬ (U.term : Int) < (m.term : Int) := by rw [HUF.out]; omega
 clear hD
 have cr9 := HN.bx.c 9 _ rfl
 have cm0 := HG.bx.c 0 _ rfl
 go_wp2_with (first
  | (refine lCc rfl _ rfl rfl (ocA rfl) (by assumption) rfl ?_)
  | (refine lBk rfl _ rfl rfl nodeT HN rfl ?_)
  | (refine lBk rfl _ rfl rfl messT HG rfl ?_))
 have HSZ := hI_ HB.size
 refine (pSay8_any rmOk U D hBU hvU m hm.fr K _ (Nat.le_trans hK HB.size) HM).mono ?_
 obtain ⟨P3, M3, h3⟩ : ∃ P3 M3, sayP U m = (P3, M3) := ⟨_, _, rfl⟩
 have HQ2 := hI_ (HQ.out.trans h3)
 rw [h3]
 clear h3 HQ
 rintro e w6 ⟨D3, v, O, rfl, hm3, hC, hO, hb⟩
 replace HB := HB.trans (hb.mono HB.size)
 replace HR := HR.later hb
 replace HM := hm3
 replace hC := hC.mono HSZ.out
 simp only at hO HM
 have HO := hI_ hO
 clear hb hm3 hO HN HG
 go_wp2_with (first
  | (refine sBk rfl _ _ rfl rfl rfl nodeT HR rfl rfl rfl ?_; intro w' hk hg; replace HM := HM.grown hg (by have := hyn.out; omega) HR.bx.ty bNd; replace hC := hC.box hg HR.bx.ty boxNm; replace HB := bGr HB hg HB.size (by have := hyn.out; omega); replace HR := hk; clear hk hg))
 refine bodyPost_ret (v := .tuple #[ndV P3 D3, v]) (by rw [rBt Tryz.results39 _ rfl nodeT HR rfl]; rfl) rfl ?_
 rw [HQ2.out]
 exact ⟨D3, v, O, rfl, HM, hC, HO.out, HB⟩
theorem pHearTerm_h1 (p : Pn) (d : Ad) (hBd : Bd p) (m : Mg) (hm : Bm m) (hes : p.g.L.length + m.es.length ≤ 9000000000000) (hvb : p.voices.length * 16 ≤ 140737488352900) (hnx : p.next.length * 16 ≤ 140737488352900) (hmt : p.mat.length * 16 ≤ 140737488352900) (K : Nat) (w : World) (hK : K ≤ w.heap.size) (hM : NdM K w p d) (hE : Ents w m.at_ m.es) (hup : p.term < m.term) (hk5 : ¬ m.kind = 5) (hk6 : ¬ m.kind = 6) (hk7 : ¬ m.kind = 7) (hlt : ¬ m.term < (upP p m.term).term) (hr : ¬ (upP p m.term).role = 2) :
 Calls Tryz.prog 39 #[ndV p d, mgV m] w (NmP K w (termP p m)) := by
 obtain ⟨W, hW, B0, N0, Z0⟩ := nk_new w p d
 obtain ⟨Wm, ym, hWm, hym, Bm, HG, Zm⟩ := bk_new W (mgA m) 52
 obtain ⟨W1, y, hW1, hy, B1, HR, Z1⟩ := bk_new Wm znA 34
 have Bm' : Below W.heap.size W Wm := hym ▸ Bm
 have B1' : Below Wm.heap.size Wm W1 := hy ▸ B1
 have HB1 := B0.trans (Bm'.mono B0.size)
 have HN := (N0.later Bm').later B1'
 replace HG := HG.later B1'
 have HB := HB1.trans (B1'.mono HB1.size)
 have hyn := hI_ (show w.heap.size < y ∧ w.heap.size < ym ∧ ym < y by have := Z0.out; have := Zm.out; omega)
 clear B0 N0 B1 Bm Bm' B1' HB1
 unfold ndA at hW
 unfold mgA at hWm
 unfold znA at hW1
 have HM := hM.later HB
 obtain ⟨U, hU⟩ : ∃ U : Pn, U = upP p m.term := ⟨_, rfl⟩
 have HUE := hI_ hU
 have HKK := hI_ hK
 have hut : m.term < 18446744073709551616 := hm.term
 have hBU : Bd U := by
  rw [hU]; unfold upP; by_cases h9 : p.term < m.term
  · rw [if_pos h9]; exact bd_follow hBd hut
  · rw [if_neg h9]; exact hBd
 have hgU : U.g = p.g := by rw [hU]; unfold upP; by_cases h9 : p.term < m.term; rw [if_pos h9]; rfl; rw [if_neg h9]
 have hesU : U.g.L.length + m.es.length ≤ 9000000000000 := by rw [hgU]; exact hes
 have hvU : U.voices.length * 16 ≤ 140737488352900 := by
  rw [hU]; unfold upP; by_cases h9 : p.term < m.term
  · rw [if_pos h9]; simp [followP]
  · rw [if_neg h9]; exact hvb
 have hnU : U.next.length * 16 ≤ 140737488352900 := by
  rw [hU]; unfold upP; by_cases h9 : p.term < m.term
  · rw [if_pos h9]; simp [followP]
  · rw [if_neg h9]; exact hnx
 have hmU : U.mat.length * 16 ≤ 140737488352900 := by
  rw [hU]; unfold upP; by_cases h9 : p.term < m.term
  · rw [if_pos h9]; simp [followP]
  · rw [if_neg h9]; exact hmt
 have HEE := hI_ (show ∀ w1, Below w.heap.size w w1 → Ents w1 m.at_ m.es from fun w1 hb => hE.later hb)
 have HQT := hI_ (show termP p m = if m.term < U.term ∧ (m.kind = 5 ∨ m.kind = 6) then (U, [replyG U m.fr false U.endI])
 else if m.term < U.term ∨ ((m.kind = 5 ∨ m.kind = 6) ∧ U.role = 3) then (U, [])
 else if m.kind = 5 then joinP (heardP U m.fr) m
 else if m.kind = 6 then instP (heardP U m.fr) m
 else if m.kind = 7 then replyP U m
 else if U.role = 2 then sayP U m else (U, []) by rw [hU]; rfl)
 rw [← hU] at hlt
 rw [← hU] at hr
 clear hM hE hU hgU
 have HQ := hI_ (show termP p m = (U, []) by rw [HQT.out, if_neg (fun h => hlt h.1), if_neg (by rintro (h | ⟨h | h, _⟩); exact hlt h; exact hk5 h; exact hk6 h), if_neg hk5, if_neg hk6, if_neg hk7, if_neg hr])
 have gk5 : (m.kind == 5) = false := by simpa using hk5
 have gk6 : (m.kind == 6) = false := by simpa using hk6
 have gk7 : (m.kind == 7) = false := by simpa using hk7
 have gl : ¬ (m.term : Int) < (U.term : Int) := by omega
 have gr2 : (U.role == 2) = false := by simpa using hr
 go_enter Tryz.func39, Tryz.ntmps39
 have gt : (p.term : Int) < (m.term : Int) := by omega
 have HUF := hI_ (show followP p m.term = U by rw [HUE.out]; unfold upP; rw [if_pos hup])
 go_wp2_with (first
  | (refine lCc rfl _ rfl rfl (ocA rfl) (by assumption) rfl ?_)
  | (refine lBk rfl _ rfl rfl nodeT HN rfl ?_))
 refine (pFollow_any p d m.term K _ HM).mono ?_
 rw [HUF.out]
 rintro e w2 ⟨D, rfl, hm2, hb⟩
 replace HB := HB.trans (hb.mono HB.size)
 replace HR := HR.later hb
 replace HG := HG.later hb
 replace HN := HN.later hb
 replace HM := hm2
 clear hb hm2
 have cm0 := HG.bx.c 0 _ rfl
 go_wp2_with (first
  | (refine sBk rfl _ _ rfl rfl rfl nodeT HN rfl rfl rfl ?_; intro w' hk hg; replace HR := HR.grown hg (by have := hyn.out; omega); replace HG := HG.grown hg (by have := hyn.out; omega); replace HM := HM.grown hg hK HN.bx.ty bNd; replace HB := bGr HB hg HB.size (Nat.le_refl _); replace HN := hk; clear hk hg; have cr9 := HN.bx.c 9 _ rfl; have cm9 := HG.bx.c 0 _ rfl)
  | (refine lCc rfl _ rfl rfl (ocA rfl) (by assumption) rfl ?_)
  | (refine lBk rfl _ rfl rfl nodeT HN rfl ?_)
  | (refine sBk rfl _ _ rfl rfl rfl nodeT HR rfl rfl rfl ?_; intro w' hk hg; replace HN := HN.grown hg (by have := hyn.out; omega); replace HG := HG.grown hg (by have := hyn.out; omega); replace HM := HM.grown hg (by have := hyn.out; omega) HR.bx.ty bNd; replace HB := bGr HB hg HB.size (by have := hyn.out; omega); replace HR := hk; clear hk hg))
 refine bodyPost_ret (v := .tuple #[ndV U D, .slice none 0 0]) (by rw [rBt Tryz.results39 _ rfl nodeT HR rfl]; rfl) rfl ?_
 rw [HQ.out]
 exact ⟨D, _, [], rfl, HM, CqG.nil _ _ none, rfl, HB⟩

theorem pHearTerm_f0 (p : Pn) (d : Ad) (hBd : Bd p) (m : Mg) (hm : Bm m) (hes : p.g.L.length + m.es.length ≤ 9000000000000) (hvb : p.voices.length * 16 ≤ 140737488352900) (hnx : p.next.length * 16 ≤ 140737488352900) (hmt : p.mat.length * 16 ≤ 140737488352900) (K : Nat) (w : World) (hK : K ≤ w.heap.size) (hM : NdM K w p d) (hE : Ents w m.at_ m.es) (hup : ¬ p.term < m.term) (hk : m.kind = 7) (hlt : ¬ m.term < (upP p m.term).term) :
 Calls Tryz.prog 39 #[ndV p d, mgV m] w (NmP K w (termP p m)) := by
 obtain ⟨W, hW, B0, N0, Z0⟩ := nk_new w p d
 obtain ⟨Wm, ym, hWm, hym, Bm, HG, Zm⟩ := bk_new W (mgA m) 52
 obtain ⟨W1, y, hW1, hy, B1, HR, Z1⟩ := bk_new Wm znA 34
 have Bm' : Below W.heap.size W Wm := hym ▸ Bm
 have B1' : Below Wm.heap.size Wm W1 := hy ▸ B1
 have HB1 := B0.trans (Bm'.mono B0.size)
 have HN := (N0.later Bm').later B1'
 replace HG := HG.later B1'
 have HB := HB1.trans (B1'.mono HB1.size)
 have hyn := hI_ (show w.heap.size < y ∧ w.heap.size < ym ∧ ym < y by have := Z0.out; have := Zm.out; omega)
 clear B0 N0 B1 Bm Bm' B1' HB1
 unfold ndA at hW
 unfold mgA at hWm
 unfold znA at hW1
 have HM := hM.later HB
 obtain ⟨U, hU⟩ : ∃ U : Pn, U = upP p m.term := ⟨_, rfl⟩
 have HUE := hI_ hU
 have HKK := hI_ hK
 have hut : m.term < 18446744073709551616 := hm.term
 have hBU : Bd U := by
  rw [hU]; unfold upP; by_cases h9 : p.term < m.term
  · rw [if_pos h9]; exact bd_follow hBd hut
  · rw [if_neg h9]; exact hBd
 have hgU : U.g = p.g := by rw [hU]; unfold upP; by_cases h9 : p.term < m.term; rw [if_pos h9]; rfl; rw [if_neg h9]
 have hesU : U.g.L.length + m.es.length ≤ 9000000000000 := by rw [hgU]; exact hes
 have hvU : U.voices.length * 16 ≤ 140737488352900 := by
  rw [hU]; unfold upP; by_cases h9 : p.term < m.term
  · rw [if_pos h9]; simp [followP]
  · rw [if_neg h9]; exact hvb
 have hnU : U.next.length * 16 ≤ 140737488352900 := by
  rw [hU]; unfold upP; by_cases h9 : p.term < m.term
  · rw [if_pos h9]; simp [followP]
  · rw [if_neg h9]; exact hnx
 have hmU : U.mat.length * 16 ≤ 140737488352900 := by
  rw [hU]; unfold upP; by_cases h9 : p.term < m.term
  · rw [if_pos h9]; simp [followP]
  · rw [if_neg h9]; exact hmt
 have HEE := hI_ (show ∀ w1, Below w.heap.size w w1 → Ents w1 m.at_ m.es from fun w1 hb => hE.later hb)
 have HQT := hI_ (show termP p m = if m.term < U.term ∧ (m.kind = 5 ∨ m.kind = 6) then (U, [replyG U m.fr false U.endI])
 else if m.term < U.term ∨ ((m.kind = 5 ∨ m.kind = 6) ∧ U.role = 3) then (U, [])
 else if m.kind = 5 then joinP (heardP U m.fr) m
 else if m.kind = 6 then instP (heardP U m.fr) m
 else if m.kind = 7 then replyP U m
 else if U.role = 2 then sayP U m else (U, []) by rw [hU]; rfl)
 rw [← hU] at hlt
 clear hM hE hU hgU
 have HQ := hI_ (show termP p m = replyP U m by rw [HQT.out, if_neg (fun h => hlt h.1), if_neg (by rintro (h | ⟨h | h, _⟩); exact hlt h; rw [hk] at h; exact absurd h (by decide); rw [hk] at h; exact absurd h (by decide)), if_neg (by rw [hk]; decide), if_neg (by rw [hk]; decide), if_pos hk])
 have gk5 : (m.kind == 5) = false := by rw [hk]; rfl
 have gk6 : (m.kind == 6) = false := by rw [hk]; rfl
 have gk7 : (m.kind == 7) = true := by rw [hk]; rfl
 have gl : ¬ (m.term : Int) < (U.term : Int) := by omega
 clear hk
 go_enter Tryz.func39, Tryz.ntmps39
 have gt : ¬ (p.term : Int) < (m.term : Int) := by omega
 have HUF := hI_ (show U = p by rw [HUE.out]; unfold upP; rw [if_neg hup])
 obtain ⟨D, hD⟩ : ∃ D, D = d := ⟨_, rfl⟩
 replace HN : Bk W1 w.heap.size 34 (ndL U D) := by rw [HUF.out, hD]; exact HN
 replace HM : NdM K W1 U D := by rw [HUF.out, hD]; exact HM
 have gtU : ¬ (U.term : Int) < (m.term : Int) := by rw [HUF.out]; omega
 clear hD
 have cr9 := HN.bx.c 9 _ rfl
 have cm0 := HG.bx.c 0 _ rfl
 go_wp2_with (first
  | (refine lCc rfl _ rfl rfl (ocA rfl) (by assumption) rfl ?_)
  | (refine lBk rfl _ rfl rfl nodeT HN rfl ?_)
  | (refine lBk rfl _ rfl rfl messT HG rfl ?_))
 have HSZ := hI_ HB.size
 refine (pHearReply_any U D hBU m hm hnU hmU K _ (Nat.le_trans hK HB.size) HM).mono ?_
 obtain ⟨P3, M3, h3⟩ : ∃ P3 M3, replyP U m = (P3, M3) := ⟨_, _, rfl⟩
 have HQ2 := hI_ (HQ.out.trans h3)
 rw [h3]
 clear h3 HQ
 rintro e w6 ⟨D3, v, O, rfl, hm3, hC, hO, hb⟩
 replace HB := HB.trans (hb.mono HB.size)
 replace HR := HR.later hb
 replace HM := hm3
 replace hC := hC.mono HSZ.out
 simp only at hO HM
 have HO := hI_ hO
 clear hb hm3 hO HN HG
 go_wp2_with (first
  | (refine sBk rfl _ _ rfl rfl rfl nodeT HR rfl rfl rfl ?_; intro w' hk hg; replace HM := HM.grown hg (by have := hyn.out; omega) HR.bx.ty bNd; replace hC := hC.box hg HR.bx.ty boxNm; replace HB := bGr HB hg HB.size (by have := hyn.out; omega); replace HR := hk; clear hk hg))
 refine bodyPost_ret (v := .tuple #[ndV P3 D3, v]) (by rw [rBt Tryz.results39 _ rfl nodeT HR rfl]; rfl) rfl ?_
 rw [HQ2.out]
 exact ⟨D3, v, O, rfl, HM, hC, HO.out, HB⟩
theorem pHearTerm_f1 (p : Pn) (d : Ad) (hBd : Bd p) (m : Mg) (hm : Bm m) (hes : p.g.L.length + m.es.length ≤ 9000000000000) (hvb : p.voices.length * 16 ≤ 140737488352900) (hnx : p.next.length * 16 ≤ 140737488352900) (hmt : p.mat.length * 16 ≤ 140737488352900) (K : Nat) (w : World) (hK : K ≤ w.heap.size) (hM : NdM K w p d) (hE : Ents w m.at_ m.es) (hup : p.term < m.term) (hk : m.kind = 7) (hlt : ¬ m.term < (upP p m.term).term) :
 Calls Tryz.prog 39 #[ndV p d, mgV m] w (NmP K w (termP p m)) := by
 obtain ⟨W, hW, B0, N0, Z0⟩ := nk_new w p d
 obtain ⟨Wm, ym, hWm, hym, Bm, HG, Zm⟩ := bk_new W (mgA m) 52
 obtain ⟨W1, y, hW1, hy, B1, HR, Z1⟩ := bk_new Wm znA 34
 have Bm' : Below W.heap.size W Wm := hym ▸ Bm
 have B1' : Below Wm.heap.size Wm W1 := hy ▸ B1
 have HB1 := B0.trans (Bm'.mono B0.size)
 have HN := (N0.later Bm').later B1'
 replace HG := HG.later B1'
 have HB := HB1.trans (B1'.mono HB1.size)
 have hyn := hI_ (show w.heap.size < y ∧ w.heap.size < ym ∧ ym < y by have := Z0.out; have := Zm.out; omega)
 clear B0 N0 B1 Bm Bm' B1' HB1
 unfold ndA at hW
 unfold mgA at hWm
 unfold znA at hW1
 have HM := hM.later HB
 obtain ⟨U, hU⟩ : ∃ U : Pn, U = upP p m.term := ⟨_, rfl⟩
 have HUE := hI_ hU
 have HKK := hI_ hK
 have hut : m.term < 18446744073709551616 := hm.term
 have hBU : Bd U := by
  rw [hU]; unfold upP; by_cases h9 : p.term < m.term
  · rw [if_pos h9]; exact bd_follow hBd hut
  · rw [if_neg h9]; exact hBd
 have hgU : U.g = p.g := by rw [hU]; unfold upP; by_cases h9 : p.term < m.term; rw [if_pos h9]; rfl; rw [if_neg h9]
 have hesU : U.g.L.length + m.es.length ≤ 9000000000000 := by rw [hgU]; exact hes
 have hvU : U.voices.length * 16 ≤ 140737488352900 := by
  rw [hU]; unfold upP; by_cases h9 : p.term < m.term
  · rw [if_pos h9]; simp [followP]
  · rw [if_neg h9]; exact hvb
 have hnU : U.next.length * 16 ≤ 140737488352900 := by
  rw [hU]; unfold upP; by_cases h9 : p.term < m.term
  · rw [if_pos h9]; simp [followP]
  · rw [if_neg h9]; exact hnx
 have hmU : U.mat.length * 16 ≤ 140737488352900 := by
  rw [hU]; unfold upP; by_cases h9 : p.term < m.term
  · rw [if_pos h9]; simp [followP]
  · rw [if_neg h9]; exact hmt
 have HEE := hI_ (show ∀ w1, Below w.heap.size w w1 → Ents w1 m.at_ m.es from fun w1 hb => hE.later hb)
 have HQT := hI_ (show termP p m = if m.term < U.term ∧ (m.kind = 5 ∨ m.kind = 6) then (U, [replyG U m.fr false U.endI])
 else if m.term < U.term ∨ ((m.kind = 5 ∨ m.kind = 6) ∧ U.role = 3) then (U, [])
 else if m.kind = 5 then joinP (heardP U m.fr) m
 else if m.kind = 6 then instP (heardP U m.fr) m
 else if m.kind = 7 then replyP U m
 else if U.role = 2 then sayP U m else (U, []) by rw [hU]; rfl)
 rw [← hU] at hlt
 clear hM hE hU hgU
 have HQ := hI_ (show termP p m = replyP U m by rw [HQT.out, if_neg (fun h => hlt h.1), if_neg (by rintro (h | ⟨h | h, _⟩); exact hlt h; rw [hk] at h; exact absurd h (by decide); rw [hk] at h; exact absurd h (by decide)), if_neg (by rw [hk]; decide), if_neg (by rw [hk]; decide), if_pos hk])
 have gk5 : (m.kind == 5) = false := by rw [hk]; rfl
 have gk6 : (m.kind == 6) = false := by rw [hk]; rfl
 have gk7 : (m.kind == 7) = true := by rw [hk]; rfl
 have gl : ¬ (m.term : Int) < (U.term : Int) := by omega
 clear hk
 go_enter Tryz.func39, Tryz.ntmps39
 have gt : (p.term : Int) < (m.term : Int) := by omega
 have HUF := hI_ (show followP p m.term = U by rw [HUE.out]; unfold upP; rw [if_pos hup])
 go_wp2_with (first
  | (refine lCc rfl _ rfl rfl (ocA rfl) (by assumption) rfl ?_)
  | (refine lBk rfl _ rfl rfl nodeT HN rfl ?_))
 refine (pFollow_any p d m.term K _ HM).mono ?_
 rw [HUF.out]
 rintro e w2 ⟨D, rfl, hm2, hb⟩
 replace HB := HB.trans (hb.mono HB.size)
 replace HR := HR.later hb
 replace HG := HG.later hb
 replace HN := HN.later hb
 replace HM := hm2
 clear hb hm2
 have cm0 := HG.bx.c 0 _ rfl
 go_wp2_with (first
  | (refine sBk rfl _ _ rfl rfl rfl nodeT HN rfl rfl rfl ?_; intro w' hk hg; replace HR := HR.grown hg (by have := hyn.out; omega); replace HG := HG.grown hg (by have := hyn.out; omega); replace HM := HM.grown hg hK HN.bx.ty bNd; replace HB := bGr HB hg HB.size (Nat.le_refl _); replace HN := hk; clear hk hg; have cr9 := HN.bx.c 9 _ rfl; have cm9 := HG.bx.c 0 _ rfl)
  | (refine lCc rfl _ rfl rfl (ocA rfl) (by assumption) rfl ?_)
  | (refine lBk rfl _ rfl rfl nodeT HN rfl ?_)
  | (refine lBk rfl _ rfl rfl messT HG rfl ?_))
 have HSZ := hI_ HB.size
 refine (pHearReply_any U D hBU m hm hnU hmU K _ (Nat.le_trans hK HB.size) HM).mono ?_
 obtain ⟨P3, M3, h3⟩ : ∃ P3 M3, replyP U m = (P3, M3) := ⟨_, _, rfl⟩
 have HQ2 := hI_ (HQ.out.trans h3)
 rw [h3]
 clear h3 HQ
 rintro e w6 ⟨D3, v, O, rfl, hm3, hC, hO, hb⟩
 replace HB := HB.trans (hb.mono HB.size)
 replace HR := HR.later hb
 replace HM := hm3
 replace hC := hC.mono HSZ.out
 simp only at hO HM
 have HO := hI_ hO
 clear hb hm3 hO HN HG
 go_wp2_with (first
  | (refine sBk rfl _ _ rfl rfl rfl nodeT HR rfl rfl rfl ?_; intro w' hk hg; replace HM := HM.grown hg (by have := hyn.out; omega) HR.bx.ty bNd; replace hC := hC.box hg HR.bx.ty boxNm; replace HB := bGr HB hg HB.size (by have := hyn.out; omega); replace HR := hk; clear hk hg))
 refine bodyPost_ret (v := .tuple #[ndV P3 D3, v]) (by rw [rBt Tryz.results39 _ rfl nodeT HR rfl]; rfl) rfl ?_
 rw [HQ2.out]
 exact ⟨D3, v, O, rfl, HM, hC, HO.out, HB⟩

theorem pHearTerm_e0 (p : Pn) (d : Ad) (hBd : Bd p) (m : Mg) (hm : Bm m) (hes : p.g.L.length + m.es.length ≤ 9000000000000) (hvb : p.voices.length * 16 ≤ 140737488352900) (hnx : p.next.length * 16 ≤ 140737488352900) (hmt : p.mat.length * 16 ≤ 140737488352900) (K : Nat) (w : World) (hK : K ≤ w.heap.size) (hM : NdM K w p d) (hE : Ents w m.at_ m.es) (hup : ¬ p.term < m.term) (hk : m.kind = 6) (hlt : ¬ m.term < (upP p m.term).term) (hr : ¬ (upP p m.term).role = 3) :
 Calls Tryz.prog 39 #[ndV p d, mgV m] w (NmP K w (termP p m)) := by
 obtain ⟨W, hW, B0, N0, Z0⟩ := nk_new w p d
 obtain ⟨Wm, ym, hWm, hym, Bm, HG, Zm⟩ := bk_new W (mgA m) 52
 obtain ⟨W1, y, hW1, hy, B1, HR, Z1⟩ := bk_new Wm znA 34
 have Bm' : Below W.heap.size W Wm := hym ▸ Bm
 have B1' : Below Wm.heap.size Wm W1 := hy ▸ B1
 have HB1 := B0.trans (Bm'.mono B0.size)
 have HN := (N0.later Bm').later B1'
 replace HG := HG.later B1'
 have HB := HB1.trans (B1'.mono HB1.size)
 have hyn := hI_ (show w.heap.size < y ∧ w.heap.size < ym ∧ ym < y by have := Z0.out; have := Zm.out; omega)
 clear B0 N0 B1 Bm Bm' B1' HB1
 unfold ndA at hW
 unfold mgA at hWm
 unfold znA at hW1
 have HM := hM.later HB
 obtain ⟨U, hU⟩ : ∃ U : Pn, U = upP p m.term := ⟨_, rfl⟩
 have HUE := hI_ hU
 have HKK := hI_ hK
 have hut : m.term < 18446744073709551616 := hm.term
 have hBU : Bd U := by
  rw [hU]; unfold upP; by_cases h9 : p.term < m.term
  · rw [if_pos h9]; exact bd_follow hBd hut
  · rw [if_neg h9]; exact hBd
 have hgU : U.g = p.g := by rw [hU]; unfold upP; by_cases h9 : p.term < m.term; rw [if_pos h9]; rfl; rw [if_neg h9]
 have hesU : U.g.L.length + m.es.length ≤ 9000000000000 := by rw [hgU]; exact hes
 have hvU : U.voices.length * 16 ≤ 140737488352900 := by
  rw [hU]; unfold upP; by_cases h9 : p.term < m.term
  · rw [if_pos h9]; simp [followP]
  · rw [if_neg h9]; exact hvb
 have hnU : U.next.length * 16 ≤ 140737488352900 := by
  rw [hU]; unfold upP; by_cases h9 : p.term < m.term
  · rw [if_pos h9]; simp [followP]
  · rw [if_neg h9]; exact hnx
 have hmU : U.mat.length * 16 ≤ 140737488352900 := by
  rw [hU]; unfold upP; by_cases h9 : p.term < m.term
  · rw [if_pos h9]; simp [followP]
  · rw [if_neg h9]; exact hmt
 have HEE := hI_ (show ∀ w1, Below w.heap.size w w1 → Ents w1 m.at_ m.es from fun w1 hb => hE.later hb)
 have HQT := hI_ (show termP p m = if m.term < U.term ∧ (m.kind = 5 ∨ m.kind = 6) then (U, [replyG U m.fr false U.endI])
 else if m.term < U.term ∨ ((m.kind = 5 ∨ m.kind = 6) ∧ U.role = 3) then (U, [])
 else if m.kind = 5 then joinP (heardP U m.fr) m
 else if m.kind = 6 then instP (heardP U m.fr) m
 else if m.kind = 7 then replyP U m
 else if U.role = 2 then sayP U m else (U, []) by rw [hU]; rfl)
 rw [← hU] at hlt
 rw [← hU] at hr
 clear hM hE hU hgU
 have HQ := hI_ (show termP p m = instP (heardP U m.fr) m by rw [HQT.out, if_neg (fun h => hlt h.1), if_neg (by rintro (h | h); exact hlt h; exact hr h.2), if_neg (by rw [hk]; decide), if_pos hk])
 have gk5 : (m.kind == 5) = false := by rw [hk]; rfl
 have gk6 : (m.kind == 6) = true := by rw [hk]; rfl
 have gk7 : (m.kind == 7) = false := by rw [hk]; rfl
 have gl : ¬ (m.term : Int) < (U.term : Int) := by omega
 have gr3 : (U.role == 3) = false := by simpa using hr
 clear hk
 go_enter Tryz.func39, Tryz.ntmps39
 have gt : ¬ (p.term : Int) < (m.term : Int) := by omega
 have HUF := hI_ (show U = p by rw [HUE.out]; unfold upP; rw [if_neg hup])
 obtain ⟨D, hD⟩ : ∃ D, D = d := ⟨_, rfl⟩
 replace HN : Bk W1 w.heap.size 34 (ndL U D) := by rw [HUF.out, hD]; exact HN
 replace HM : NdM K W1 U D := by rw [HUF.out, hD]; exact HM
 have gtU : ¬ (U.term : Int) < (m.term : Int) := by rw [HUF.out]; omega
 clear hD
 have cr9 := HN.bx.c 9 _ rfl
 have cm0 := HG.bx.c 0 _ rfl
 go_wp2_with (first
  | (refine lCc rfl _ rfl rfl (ocA rfl) (by assumption) rfl ?_))
 replace HR := HR.later ((Below.refl _ _).drew)
 refine wp_region_held_drew (S := fun w' => Bk w' w.heap.size 34 (ndL U D) ∧ Bk w' ym 52 (mgC m) ∧ NdM K w' U D ∧ Below w.heap.size w w') (by kernel_rfl) (⟨HN.later ((Below.refl _ _).drew), HG.later ((Below.refl _ _).drew), HM.later ((Below.refl _ _).drew), HB.drew⟩) (fun HS => ?_)
 refine tkh (i := 0) (v := (.agg (ndL U D).toArray)) rfl ⟨by rfl, fun _ hSw => eLb _ rfl rfl nodeT hSw.1 rfl⟩ HS ?_
 try simp only [ly, Act.put]
 refine tkp (i := 1) rfl HS ?_
 refine tkh (i := 2) (v := (.int .u64 m.fr)) rfl ⟨by rfl, fun _ hSw => exec_load_c _ rfl rfl ocU hSw.2.1 rfl⟩ HS ?_
 refine tkh (i := 4) (v := (.agg (List.toArray (mgC m)))) rfl ⟨by rfl, fun _ hSw => eLb _ rfl rfl messT hSw.2.1 rfl⟩ HS ?_
 try simp only [ly, Act.put]
 refine onh (r := 3) (by kernel_rfl) rfl (fun KK hK => ?_)
 go_simp
 refine (pHeard_any U D m.fr K _ (Nat.le_trans HKK.out HS.2.2.2.size) HS.2.2.1).mono ?_
 rintro e w4 ⟨D4, rfl, hm4, hb⟩
 have HM4 := hm4
 clear hm4
 replace HR := HR.later hb
 have HE4 := hI_ (HEE.out _ (HS.2.2.2.trans (hb.mono HS.2.2.2.size)))
 go_wp2_with fail
 refine hK.out _ _ ⟨HS.1.later hb, HS.2.1.later hb, HS.2.2.1.later hb, HS.2.2.2.trans (hb.mono HS.2.2.2.size)⟩ (fun HS => ?_)
 clear hK
 try simp only [ly, Act.put]
 refine onh (r := 5) (by kernel_rfl) rfl (fun KK hK => ?_)
 go_simp
 refine (pInstall8_any (heardP U m.fr) D4 (bd_heard hBU m.fr hm.fr) m hm K _ (Nat.le_trans HKK.out HS.2.2.2.size) HM4).mono ?_
 obtain ⟨P3, M3, h3⟩ : ∃ P3 M3, instP (heardP U m.fr) m = (P3, M3) := ⟨_, _, rfl⟩
 have HQ2 := hI_ (HQ.out.trans h3)
 rw [h3]
 clear h3 HQ
 rintro e w5 ⟨D3, v, O, rfl, hm3, hC, hO, hb⟩
 simp only at hO hm3
 have HM3 := hm3
 have HC := hC.mono HS.2.2.2.size
 have HO := hI_ hO
 clear hC hO hm3
 replace HR := HR.later hb
 go_wp2_with fail
 refine hK.out _ _ ⟨HS.1.later hb, HS.2.1.later hb, HS.2.2.1.later hb, HS.2.2.2.trans (hb.mono HS.2.2.2.size)⟩ (fun HS => ?_)
 clear hK
 try simp only [ly, Act.put]
 refine tkp (i := 6) rfl HS ?_
 try simp only [ly, Act.put]
 refine tkp (i := 7) rfl HS ?_
 try simp only [ly, Act.put]
 refine onh (r := 8) (by kernel_rfl) rfl (fun KK hK => ?_)
 rw [if_pos (by rfl)]
 refine wSb _ _ rfl rfl (M := ndL P3 D3) rfl nodeT HR rfl rfl rfl ?_
 intro w' hk hg
 have HS9 := And.intro (HS.1.grown hg (by have := hyn.out; omega)) (And.intro (HS.2.1.grown hg (by have := hyn.out; omega)) (And.intro (HS.2.2.1.grown hg (by have := hyn.out; omega) HR.bx.ty bNd) (bGr HS.2.2.2 hg HS.2.2.2.size (by have := hyn.out; omega))))
 replace HC := HC.box hg HR.bx.ty boxNm
 replace HM3 := HM3.grown hg (by have := hyn.out; omega) HR.bx.ty bNd
 replace HR := hk
 clear hk hg
 refine hK.out _ _ HS9 (fun HS => ?_)
 clear HS9
 clear hK
 try simp only [ly, Act.put]
 refine tkp (i := 9) rfl HS ?_
 try simp only [ly, Act.put]
 refine wpAnyH_done (by kernel_rfl) ?_ _
 go_wp2_with fail
 refine bodyPost_ret (v := .tuple #[ndV P3 D3, v]) (by rw [rBt Tryz.results39 _ rfl nodeT HR rfl]; rfl) rfl ?_
 rw [HQ2.out]
 exact ⟨D3, v, O, rfl, HM3, HC, HO.out, HS.2.2.2⟩

theorem pHearInTerm_any (p : Pn) (d : Ad) (hBd : Bd p) (m : Mg) (hm : Bm m) (hes : p.g.L.length + m.es.length ≤ 9000000000000) (hvb : p.voices.length * 16 ≤ 140737488352900) (hnx : p.next.length * 16 ≤ 140737488352900) (hmt : p.mat.length * 16 ≤ 140737488352900) (K : Nat) (w : World) (hK : K ≤ w.heap.size) (hM : NdM K w p d) (hE : Ents w m.at_ m.es) :
 Calls Tryz.prog 39 #[ndV p d, mgV m] w (NmP K w (termP p m)) := by
 by_cases hup : p.term < m.term
 · have h1 : ¬ m.term < (upP p m.term).term := by simp [upP, followP, hup]
   have h2 : (upP p m.term).role = 0 := by simp [upP, followP, hup]
   by_cases hk5 : m.kind = 5
   · exact pHearTerm_d1 p d hBd m hm hes hvb hnx hmt K w hK hM hE hup hk5 h1 (by rw [h2]; decide)
   · by_cases hk6 : m.kind = 6
     · exact pHearTerm_e1 p d hBd m hm hes hvb hnx hmt K w hK hM hE hup hk6 h1 (by rw [h2]; decide)
     · by_cases hk7 : m.kind = 7
       · exact pHearTerm_f1 p d hBd m hm hes hvb hnx hmt K w hK hM hE hup hk7 h1
       · exact pHearTerm_h1 p d hBd m hm hes hvb hnx hmt K w hK hM hE hup hk5 hk6 hk7 h1 (by rw [h2]; decide)
 · by_cases hlt : m.term < (upP p m.term).term
   · by_cases hk5 : m.kind = 5
     · exact pHearTerm_a05 p d hBd m hm hes hvb hnx hmt K w hK hM hE hup hk5 hlt
     · by_cases hk6 : m.kind = 6
       · exact pHearTerm_a06 p d hBd m hm hes hvb hnx hmt K w hK hM hE hup hk6 hlt
       · exact pHearTerm_b0 p d hBd m hm hes hvb hnx hmt K w hK hM hE hup hk5 hk6 hlt
   · by_cases hk5 : m.kind = 5
     · by_cases hr : (upP p m.term).role = 3
       · exact pHearTerm_c05 p d hBd m hm hes hvb hnx hmt K w hK hM hE hup hk5 hlt hr
       · exact pHearTerm_d0 p d hBd m hm hes hvb hnx hmt K w hK hM hE hup hk5 hlt hr
     · by_cases hk6 : m.kind = 6
       · by_cases hr : (upP p m.term).role = 3
         · exact pHearTerm_c06 p d hBd m hm hes hvb hnx hmt K w hK hM hE hup hk6 hlt hr
         · exact pHearTerm_e0 p d hBd m hm hes hvb hnx hmt K w hK hM hE hup hk6 hlt hr
       · by_cases hk7 : m.kind = 7
         · exact pHearTerm_f0 p d hBd m hm hes hvb hnx hmt K w hK hM hE hup hk7 hlt
         · by_cases hr : (upP p m.term).role = 2
           · exact pHearTerm_g0 p d hBd m hm hes hvb hnx hmt K w hK hM hE hup hk5 hk6 hk7 hlt hr
           · exact pHearTerm_h0 p d hBd m hm hes hvb hnx hmt K w hK hM hE hup hk5 hk6 hk7 hlt hr
end Go.Proofs.YtdcpiaoadbbdoaaGreat
