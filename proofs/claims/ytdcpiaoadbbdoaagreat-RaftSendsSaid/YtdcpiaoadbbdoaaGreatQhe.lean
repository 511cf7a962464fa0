/- A message that is not for the node. -/
import Derived.Test.YtdcpiaoadbbdoaaGreatBulk
import Derived.Test.YtdcpiaoadbbdoaaGreatQht
import Derived.Test.YtdcpiaoadbbdoaaGreatQhed
set_option maxRecDepth 100000
set_option maxHeartbeats 16000000
namespace Go.Proofs.YtdcpiaoadbbdoaaGreat
open Go.RowKit

theorem pHear_r1 (p : Pn) (d : Ad) (_ : Bd p) (m : Mg) (_ : Bm m) (_ : p.g.L.length + m.es.length ≤ 9000000000000) (_ : p.voices.length * 16 ≤ 140737488352900) (_ : p.next.length * 16 ≤ 140737488352900) (_ : p.mat.length * 16 ≤ 140737488352900) (K : Nat) (w : World) (hK : K ≤ w.heap.size) (hM : NdM K w p d) (hE : Ents w m.at_ m.es) (h1 : ¬ m.dst = p.id) :
 Calls Tryz.prog 14 #[ndV p d, mgV m] w (NmP K w (hearP p m)) := by
 obtain ⟨W, hW, B0, N0, Z0⟩ := nk_new w p d
 obtain ⟨Wm, ym, hWm, hym, Bm, HG, Zm⟩ := bk_new W (mgA m) 52
 obtain ⟨W1, y, hW1, hy, B1, HR, Z1⟩ := bk_new Wm znA 34
 have Bm' : Below W.heap.size W Wm := hym ▸ Bm
 have B1' : Below Wm.heap.size Wm W1 := hy ▸ B1
 have HB1 := B0.trans (Bm'.mono B0.size)
 have HN := (N0.later Bm').later B1'
 replace HG := HG.later B1'
 have HB := HB1.trans (B1'.mono HB1.size)
 have hyn := hI_ (show w.heap.size < y ∧ w.heap.size < ym ∧ ym < y by have := Z0.out; have := Zm.out; omega)
 clear B0 N0 B1 Bm Bm' B1' HB1
 unfold ndA at hW
 unfold mgA at hWm
 unfold znA at hW1
 have HM := hM.later HB
 have HKK := hI_ hK
 have HEE := hI_ (show ∀ w1, Below w.heap.size w w1 → Ents w1 m.at_ m.es from fun w1 hb => hE.later hb)
 have c0 := HN.bx.c 0 _ rfl
 have e1 := HG.bx.c 1 _ rfl
 have e3 := HG.bx.c 3 _ rfl
 clear hM hE
 have HQ := hI_ (show hearP p m = (p, []) by unfold hearP; rw [if_pos (.inl h1)])
 have g1 : (((m.dst : Nat) : Int) == ((p.id : Nat) : Int)) = false := by first | (simp; done) | (simp; omega)
 have g1' : (((m.dst : Nat) : Int) != ((p.id : Nat) : Int)) = true := by first | (simp; done) | (simp; omega)
 go_enter Tryz.func14, Tryz.ntmps14
 go_wp2_with (first
  | (refine lCc rfl _ rfl rfl (ocA rfl) (by assumption) rfl ?_)
  | (refine lBk rfl _ rfl rfl nodeT HN rfl ?_)
  | (refine sBk rfl _ _ rfl rfl rfl nodeT HR rfl rfl rfl ?_; intro w' hk hg; replace HN := HN.grown hg (by have := hyn.out; omega); replace HG := HG.grown hg (by have := hyn.out; omega); replace HM := HM.grown hg (by have := hyn.out; omega) HR.bx.ty bNd; replace HB := bGr HB hg HB.size (by have := hyn.out; omega); replace HR := hk; clear hk hg))
 refine bodyPost_ret (v := .tuple #[ndV p d, .slice none 0 0]) (by rw [rBt Tryz.results14 _ rfl nodeT HR rfl]; rfl) rfl ?_
 rw [HQ.out]
 exact ⟨d, _, [], rfl, HM, CqG.nil _ _ none, rfl, HB⟩
theorem pHear_r2 (p : Pn) (d : Ad) (_ : Bd p) (m : Mg) (_ : Bm m) (_ : p.g.L.length + m.es.length ≤ 9000000000000) (_ : p.voices.length * 16 ≤ 140737488352900) (_ : p.next.length * 16 ≤ 140737488352900) (_ : p.mat.length * 16 ≤ 140737488352900) (K : Nat) (w : World) (hK : K ≤ w.heap.size) (hM : NdM K w p d) (hE : Ents w m.at_ m.es) (h1 : m.dst = p.id) (h2 : m.fr = p.id) :
 Calls Tryz.prog 14 #[ndV p d, mgV m] w (NmP K w (hearP p m)) := by
 obtain ⟨W, hW, B0, N0, Z0⟩ := nk_new w p d
 obtain ⟨Wm, ym, hWm, hym, Bm, HG, Zm⟩ := bk_new W (mgA m) 52
 obtain ⟨W1, y, hW1, hy, B1, HR, Z1⟩ := bk_new Wm znA 34
 have Bm' : Below W.heap.size W Wm := hym ▸ Bm
 have B1' : Below Wm.heap.size Wm W1 := hy ▸ B1
 have HB1 := B0.trans (Bm'.mono B0.size)
 have HN := (N0.later Bm').later B1'
 replace HG := HG.later B1'
 have HB := HB1.trans (B1'.mono HB1.size)
 have hyn := hI_ (show w.heap.size < y ∧ w.heap.size < ym ∧ ym < y by have := Z0.out; have := Zm.out; omega)
 clear B0 N0 B1 Bm Bm' B1' HB1
 unfold ndA at hW
 unfold mgA at hWm
 unfold znA at hW1
 have HM := hM.later HB
 have HKK := hI_ hK
 have HEE := hI_ (show ∀ w1, Below w.heap.size w w1 → Ents w1 m.at_ m.es from fun w1 hb => hE.later hb)
 have c0 := HN.bx.c 0 _ rfl
 have e1 := HG.bx.c 1 _ rfl
 have e3 := HG.bx.c 3 _ rfl
 clear hM hE
 have HQ := hI_ (show hearP p m = (p, []) by unfold hearP; rw [if_pos (.inr (.inl h2))])
 have g1 : (((m.dst : Nat) : Int) == ((p.id : Nat) : Int)) = true := by first | (simp; done) | (simp; omega)
 have g1' : (((m.dst : Nat) : Int) != ((p.id : Nat) : Int)) = false := by first | (simp; done) | (simp; omega)
 have g2 : (((m.fr : Nat) : Int) == ((p.id : Nat) : Int)) = true := by first | (simp; done) | (simp; omega)
 have g2' : (((m.fr : Nat) : Int) != ((p.id : Nat) : Int)) = false := by first | (simp; done) | (simp; omega)
 clear h1 h2
 go_enter Tryz.func14, Tryz.ntmps14
 go_wp2_with (first
  | (refine lCc rfl _ rfl rfl (ocA rfl) (by assumption) rfl ?_)
  | (refine lBk rfl _ rfl rfl nodeT HN rfl ?_)
  | (refine sBk rfl _ _ rfl rfl rfl nodeT HR rfl rfl rfl ?_; intro w' hk hg; replace HN := HN.grown hg (by have := hyn.out; omega); replace HG := HG.grown hg (by have := hyn.out; omega); replace HM := HM.grown hg (by have := hyn.out; omega) HR.bx.ty bNd; replace HB := bGr HB hg HB.size (by have := hyn.out; omega); replace HR := hk; clear hk hg))
 refine bodyPost_ret (v := .tuple #[ndV p d, .slice none 0 0]) (by rw [rBt Tryz.results14 _ rfl nodeT HR rfl]; rfl) rfl ?_
 rw [HQ.out]
 exact ⟨d, _, [], rfl, HM, CqG.nil _ _ none, rfl, HB⟩
theorem pHear_r3 (p : Pn) (d : Ad) (_ : Bd p) (m : Mg) (_ : Bm m) (_ : p.g.L.length + m.es.length ≤ 9000000000000) (_ : p.voices.length * 16 ≤ 140737488352900) (_ : p.next.length * 16 ≤ 140737488352900) (_ : p.mat.length * 16 ≤ 140737488352900) (K : Nat) (w : World) (hK : K ≤ w.heap.size) (hM : NdM K w p d) (hE : Ents w m.at_ m.es) (h1 : m.dst = p.id) (h2 : ¬ m.fr = p.id) (h3 : ¬ (1 ≤ m.fr ∧ m.fr ≤ 63)) :
 Calls Tryz.prog 14 #[ndV p d, mgV m] w (NmP K w (hearP p m)) := by
 obtain ⟨W, hW, B0, N0, Z0⟩ := nk_new w p d
 obtain ⟨Wm, ym, hWm, hym, Bm, HG, Zm⟩ := bk_new W (mgA m) 52
 obtain ⟨W1, y, hW1, hy, B1, HR, Z1⟩ := bk_new Wm znA 34
 have Bm' : Below W.heap.size W Wm := hym ▸ Bm
 have B1' : Below Wm.heap.size Wm W1 := hy ▸ B1
 have HB1 := B0.trans (Bm'.mono B0.size)
 have HN := (N0.later Bm').later B1'
 replace HG := HG.later B1'
 have HB := HB1.trans (B1'.mono HB1.size)
 have hyn := hI_ (show w.heap.size < y ∧ w.heap.size < ym ∧ ym < y by have := Z0.out; have := Zm.out; omega)
 clear B0 N0 B1 Bm Bm' B1' HB1
 unfold ndA at hW
 unfold mgA at hWm
 unfold znA at hW1
 have HM := hM.later HB
 have HKK := hI_ hK
 have HEE := hI_ (show ∀ w1, Below w.heap.size w w1 → Ents w1 m.at_ m.es from fun w1 hb => hE.later hb)
 have c0 := HN.bx.c 0 _ rfl
 have e1 := HG.bx.c 1 _ rfl
 have e3 := HG.bx.c 3 _ rfl
 clear hM hE
 have HQ := hI_ (show hearP p m = (p, []) by unfold hearP; rw [if_pos (.inr (.inr (.inl h3)))])
 have g1 : (((m.dst : Nat) : Int) == ((p.id : Nat) : Int)) = true := by first | (simp; done) | (simp; omega)
 have g1' : (((m.dst : Nat) : Int) != ((p.id : Nat) : Int)) = false := by first | (simp; done) | (simp; omega)
 have g2 : (((m.fr : Nat) : Int) == ((p.id : Nat) : Int)) = false := by first | (simp; done) | (simp; omega)
 have g2' : (((m.fr : Nat) : Int) != ((p.id : Nat) : Int)) = true := by first | (simp; done) | (simp; omega)
 clear h1
 go_enter Tryz.func14, Tryz.ntmps14
 go_wp2_with (first
  | (refine lCc rfl _ rfl rfl (ocA rfl) (by assumption) rfl ?_))
 refine (pMayIdR_any m.fr _).mono ?_
 rintro e w2 ⟨rfl, rfl⟩
 rw [show decide (1 ≤ m.fr ∧ m.fr ≤ 63) = false by simp; omega]
 go_wp2_with (first
  | (refine lBk rfl _ rfl rfl nodeT HN rfl ?_)
  | (refine sBk rfl _ _ rfl rfl rfl nodeT HR rfl rfl rfl ?_; intro w' hk hg; replace HN := HN.grown hg (by have := hyn.out; omega); replace HG := HG.grown hg (by have := hyn.out; omega); replace HM := HM.grown hg (by have := hyn.out; omega) HR.bx.ty bNd; replace HB := bGr HB hg HB.size (by have := hyn.out; omega); replace HR := hk; clear hk hg))
 refine bodyPost_ret (v := .tuple #[ndV p d, .slice none 0 0]) (by rw [rBt Tryz.results14 _ rfl nodeT HR rfl]; rfl) rfl ?_
 rw [HQ.out]
 exact ⟨d, _, [], rfl, HM, CqG.nil _ _ none, rfl, HB⟩
theorem pHear_r4 (p : Pn) (d : Ad) (_ : Bd p) (m : Mg) (_ : Bm m) (_ : p.g.L.length + m.es.length ≤ 9000000000000) (_ : p.voices.length * 16 ≤ 140737488352900) (_ : p.next.length * 16 ≤ 140737488352900) (_ : p.mat.length * 16 ≤ 140737488352900) (K : Nat) (w : World) (hK : K ≤ w.heap.size) (hM : NdM K w p d) (hE : Ents w m.at_ m.es) (h1 : m.dst = p.id) (h2 : ¬ m.fr = p.id) (h3 : 1 ≤ m.fr ∧ m.fr ≤ 63) (h4 : 4611686018427387903 < m.term) :
 Calls Tryz.prog 14 #[ndV p d, mgV m] w (NmP K w (hearP p m)) := by
 obtain ⟨W, hW, B0, N0, Z0⟩ := nk_new w p d
 obtain ⟨Wm, ym, hWm, hym, Bm, HG, Zm⟩ := bk_new W (mgA m) 52
 obtain ⟨W1, y, hW1, hy, B1, HR, Z1⟩ := bk_new Wm znA 34
 have Bm' : Below W.heap.size W Wm := hym ▸ Bm
 have B1' : Below Wm.heap.size Wm W1 := hy ▸ B1
 have HB1 := B0.trans (Bm'.mono B0.size)
 have HN := (N0.later Bm').later B1'
 replace HG := HG.later B1'
 have HB := HB1.trans (B1'.mono HB1.size)
 have hyn := hI_ (show w.heap.size < y ∧ w.heap.size < ym ∧ ym < y by have := Z0.out; have := Zm.out; omega)
 clear B0 N0 B1 Bm Bm' B1' HB1
 unfold ndA at hW
 unfold mgA at hWm
 unfold znA at hW1
 have HM := hM.later HB
 have HKK := hI_ hK
 have HEE := hI_ (show ∀ w1, Below w.heap.size w w1 → Ents w1 m.at_ m.es from fun w1 hb => hE.later hb)
 have c0 := HN.bx.c 0 _ rfl
 have e1 := HG.bx.c 1 _ rfl
 have e3 := HG.bx.c 3 _ rfl
 clear hM hE
 have HQ := hI_ (show hearP p m = (p, []) by unfold hearP; rw [if_pos (.inr (.inr (.inr h4)))])
 have g1 : (((m.dst : Nat) : Int) == ((p.id : Nat) : Int)) = true := by first | (simp; done) | (simp; omega)
 have g1' : (((m.dst : Nat) : Int) != ((p.id : Nat) : Int)) = false := by first | (simp; done) | (simp; omega)
 have g2 : (((m.fr : Nat) : Int) == ((p.id : Nat) : Int)) = false := by first | (simp; done) | (simp; omega)
 have g2' : (((m.fr : Nat) : Int) != ((p.id : Nat) : Int)) = true := by first | (simp; done) | (simp; omega)
 have g4 : decide ((4611686018427387903 : Int) < (m.term : Int)) = true := by simp; omega
 clear h1
 go_enter Tryz.func14, Tryz.ntmps14
 go_wp2_with (first
  | (refine lCc rfl _ rfl rfl (ocA rfl) (by assumption) rfl ?_))
 refine (pMayIdR_any m.fr _).mono ?_
 rintro e w2 ⟨rfl, rfl⟩
 rw [show decide (1 ≤ m.fr ∧ m.fr ≤ 63) = true by simp; omega]
 go_wp2_with (first
  | (refine lBk rfl _ rfl rfl nodeT HN rfl ?_)
  | (refine sBk rfl _ _ rfl rfl rfl nodeT HR rfl rfl rfl ?_; intro w' hk hg; replace HN := HN.grown hg (by have := hyn.out; omega); replace HG := HG.grown hg (by have := hyn.out; omega); replace HM := HM.grown hg (by have := hyn.out; omega) HR.bx.ty bNd; replace HB := bGr HB hg HB.size (by have := hyn.out; omega); replace HR := hk; clear hk hg))
 refine bodyPost_ret (v := .tuple #[ndV p d, .slice none 0 0]) (by rw [rBt Tryz.results14 _ rfl nodeT HR rfl]; rfl) rfl ?_
 rw [HQ.out]
 exact ⟨d, _, [], rfl, HM, CqG.nil _ _ none, rfl, HB⟩

theorem pHear_k0 (p : Pn) (d : Ad) (_ : Bd p) (m : Mg) (_ : Bm m) (_ : p.g.L.length + m.es.length ≤ 9000000000000) (_ : p.voices.length * 16 ≤ 140737488352900) (_ : p.next.length * 16 ≤ 140737488352900) (_ : p.mat.length * 16 ≤ 140737488352900) (K : Nat) (w : World) (hK : K ≤ w.heap.size) (hM : NdM K w p d) (hE : Ents w m.at_ m.es) (h1 : m.dst = p.id) (h2 : ¬ m.fr = p.id) (h3 : 1 ≤ m.fr ∧ m.fr ≤ 63) (h4 : ¬ 4611686018427387903 < m.term) (k1 : ¬ m.kind = 1) (k2 : ¬ m.kind = 2) (k3 : ¬ m.kind = 3) (k4 : ¬ m.kind = 4) (k5 : ¬ m.kind = 5) (k6 : ¬ m.kind = 6) (k7 : ¬ m.kind = 7) :
 Calls Tryz.prog 14 #[ndV p d, mgV m] w (NmP K w (hearP p m)) := by
 obtain ⟨W, hW, B0, N0, Z0⟩ := nk_new w p d
 obtain ⟨Wm, ym, hWm, hym, Bm, HG, Zm⟩ := bk_new W (mgA m) 52
 obtain ⟨W1, y, hW1, hy, B1, HR, Z1⟩ := bk_new Wm znA 34
 have Bm' : Below W.heap.size W Wm := hym ▸ Bm
 have B1' : Below Wm.heap.size Wm W1 := hy ▸ B1
 have HB1 := B0.trans (Bm'.mono B0.size)
 have HN := (N0.later Bm').later B1'
 replace HG := HG.later B1'
 have HB := HB1.trans (B1'.mono HB1.size)
 have hyn := hI_ (show w.heap.size < y ∧ w.heap.size < ym ∧ ym < y by have := Z0.out; have := Zm.out; omega)
 clear B0 N0 B1 Bm Bm' B1' HB1
 unfold ndA at hW
 unfold mgA at hWm
 unfold znA at hW1
 have HM := hM.later HB
 have HKK := hI_ hK
 have HEE := hI_ (show ∀ w1, Below w.heap.size w w1 → Ents w1 m.at_ m.es from fun w1 hb => hE.later hb)
 have c0 := HN.bx.c 0 _ rfl
 have e1 := HG.bx.c 1 _ rfl
 have e3 := HG.bx.c 3 _ rfl
 clear hM hE
 have HQ := hI_ (show hearP p m = (p, []) by unfold hearP; rw [if_neg (by rintro (h | h | h | h); exact h h1; exact h2 h; exact h h3; exact h4 h), if_neg k1, if_neg k3, if_neg k2, if_neg (by rintro (h | h | h | h); exact k4 h; exact k5 h; exact k6 h; exact k7 h)])
 have g1 : (((m.dst : Nat) : Int) == ((p.id : Nat) : Int)) = true := by first | (simp; done) | (simp; omega)
 have g1' : (((m.dst : Nat) : Int) != ((p.id : Nat) : Int)) = false := by first | (simp; done) | (simp; omega)
 have g2 : (((m.fr : Nat) : Int) == ((p.id : Nat) : Int)) = false := by first | (simp; done) | (simp; omega)
 have g2' : (((m.fr : Nat) : Int) != ((p.id : Nat) : Int)) = true := by first | (simp; done) | (simp; omega)
 have g4 : decide ((4611686018427387903 : Int) < (m.term : Int)) = false := by simp; omega
 have gk1 : (m.kind == 1) = false := by simpa using k1
 have gk2 : (m.kind == 2) = false := by simpa using k2
 have gk3 : (m.kind == 3) = false := by simpa using k3
 have gk4 : (m.kind == 4) = false := by simpa using k4
 have gk5 : (m.kind == 5) = false := by simpa using k5
 have gk6 : (m.kind == 6) = false := by simpa using k6
 have gk7 : (m.kind == 7) = false := by simpa using k7
 clear h1
 go_enter Tryz.func14, Tryz.ntmps14
 go_wp2_with (first
  | (refine lCc rfl _ rfl rfl (ocA rfl) (by assumption) rfl ?_))
 refine (pMayIdR_any m.fr _).mono ?_
 rintro e w2 ⟨rfl, rfl⟩
 rw [show decide (1 ≤ m.fr ∧ m.fr ≤ 63) = true by simp; omega]
 go_wp2_with (first
  | (refine lCc rfl _ rfl rfl (ocA rfl) (by assumption) rfl ?_)
  | (refine lBk rfl _ rfl rfl nodeT HN rfl ?_)
  | (refine sBk rfl _ _ rfl rfl rfl nodeT HR rfl rfl rfl ?_; intro w' hk hg; replace HN := HN.grown hg (by have := hyn.out; omega); replace HG := HG.grown hg (by have := hyn.out; omega); replace HM := HM.grown hg (by have := hyn.out; omega) HR.bx.ty bNd; replace HB := bGr HB hg HB.size (by have := hyn.out; omega); replace HR := hk; clear hk hg))
 refine bodyPost_ret (v := .tuple #[ndV p d, .slice none 0 0]) (by rw [rBt Tryz.results14 _ rfl nodeT HR rfl]; rfl) rfl ?_
 rw [HQ.out]
 exact ⟨d, _, [], rfl, HM, CqG.nil _ _ none, rfl, HB⟩

theorem pHear_any (p : Pn) (d : Ad) (hBd : Bd p) (m : Mg) (hm : Bm m) (hes : p.g.L.length + m.es.length ≤ 9000000000000) (hvb : p.voices.length * 16 ≤ 140737488352900) (hnx : p.next.length * 16 ≤ 140737488352900) (hmt : p.mat.length * 16 ≤ 140737488352900) (K : Nat) (w : World) (hK : K ≤ w.heap.size) (hM : NdM K w p d) (hE : Ents w m.at_ m.es) :
 Calls Tryz.prog 14 #[ndV p d, mgV m] w (NmP K w (hearP p m)) := by
 by_cases h1 : m.dst = p.id
 · by_cases h2 : m.fr = p.id
   · exact pHear_r2 p d hBd m hm hes hvb hnx hmt K w hK hM hE h1 h2
   · by_cases h3 : 1 ≤ m.fr ∧ m.fr ≤ 63
     · by_cases h4 : 4611686018427387903 < m.term
       · exact pHear_r4 p d hBd m hm hes hvb hnx hmt K w hK hM hE h1 h2 h3 h4
       · by_cases k1 : m.kind = 1
         · exact pHear_k1 p d hBd m hm hes hvb hnx hmt K w hK hM hE h1 h2 h3 h4 k1
         by_cases k2 : m.kind = 2
         · exact pHear_k2 p d hBd m hm hes hvb hnx hmt K w hK hM hE h1 h2 h3 h4 k2
         by_cases k3 : m.kind = 3
         · exact pHear_k3 p d hBd m hm hes hvb hnx hmt K w hK hM hE h1 h2 h3 h4 k3
         by_cases k4 : m.kind = 4
         · exact pHear_k4 p d hBd m hm hes hvb hnx hmt K w hK hM hE h1 h2 h3 h4 k4
         by_cases k5 : m.kind = 5
         · exact pHear_k5 p d hBd m hm hes hvb hnx hmt K w hK hM hE h1 h2 h3 h4 k5
         by_cases k6 : m.kind = 6
         · exact pHear_k6 p d hBd m hm hes hvb hnx hmt K w hK hM hE h1 h2 h3 h4 k6
         by_cases k7 : m.kind = 7
         · exact pHear_k7 p d hBd m hm hes hvb hnx hmt K w hK hM hE h1 h2 h3 h4 k7
         exact pHear_k0 p d hBd m hm hes hvb hnx hmt K w hK hM hE h1 h2 h3 h4 k1 k2 k3 k4 k5 k6 k7
     · exact pHear_r3 p d hBd m hm hes hvb hnx hmt K w hK hM hE h1 h2 h3
 · exact pHear_r1 p d hBd m hm hes hvb hnx hmt K w hK hM hE h1
end Go.Proofs.YtdcpiaoadbbdoaaGreat
