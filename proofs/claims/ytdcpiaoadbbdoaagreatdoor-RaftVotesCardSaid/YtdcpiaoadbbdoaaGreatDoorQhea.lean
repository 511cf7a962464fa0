/- Which numbers may be. -/
import Derived.Test.YtdcpiaoadbbdoaaGreatDoorRtake
import Derived.Test.YtdcpiaoadbbdoaaGreatDoorQcf
import Derived.Test.YtdcpiaoadbbdoaaGreatDoorQht
import Derived.Test.YtdcpiaoadbbdoaaGreatDoorQvo
import Derived.Test.YtdcpiaoadbbdoaaGreatDoorQz
import Derived.Test.YtdcpiaoadbbdoaaGreatDoorZk
set_option maxRecDepth 100000
set_option maxHeartbeats 16000000
namespace Go.Proofs.YtdcpiaoadbbdoaaGreatDoor
open Go.RowKit

theorem pMayIdR_any (v : Nat) (w : World) : Calls Tryz.prog 55 #[.int .u64 v] w fun e w' => e = .returned (.bool (decide (1 ≤ v ∧ v ≤ 63))) ∧ w = w' := by
 by_cases h : 1 ≤ v
 · have g : (1 : Int) ≤ (v : Int) := by omega
   by_cases h2 : v ≤ 63
   · have g2 : (v : Int) ≤ 63 := by omega
     go_enter Tryz.func55, Tryz.ntmps55
     go_wp2_with fail
     go_ret
     exact ⟨by simp [h, h2], rfl⟩
   · have g2 : ¬ (v : Int) ≤ 63 := by omega
     go_enter Tryz.func55, Tryz.ntmps55
     go_wp2_with fail
     go_ret
     exact ⟨by simp, rfl⟩
 · have g : ¬ (1 : Int) ≤ (v : Int) := by omega
   go_enter Tryz.func55, Tryz.ntmps55
   go_wp2_with fail
   go_ret
   exact ⟨by simp, rfl⟩

theorem pHear_k1 (p : Pn) (d : Ad) (hBd : Bd p) (m : Mg) (_ : Bm m) (_ : p.g.L.length + m.es.length ≤ 9000000000000) (_ : p.voices.length * 16 ≤ 140737488352900) (_ : p.next.length * 16 ≤ 140737488352900) (_ : p.mat.length * 16 ≤ 140737488352900) (K : Nat) (w : World) (hK : K ≤ w.heap.size) (hM : NdM K w p d) (hE : Ents w m.at_ m.es) (h1 : m.dst = p.id) (h2 : ¬ m.fr = p.id) (h3 : 1 ≤ m.fr ∧ m.fr ≤ 63) (h4 : ¬ 4611686018427387903 < m.term) (hk : m.kind = 1) :
 Calls Tryz.prog 19 #[ndV p d, mgV m] w (NmP K w (hearP p m)) := by
 obtain ⟨W, hW, B0, N0, Z0⟩ := nk_new w p d
 obtain ⟨Wm, ym, hWm, hym, Bm, HG, Zm⟩ := bk_new W (mgA m) 59
 obtain ⟨W1, y, hW1, hy, B1, HR, Z1⟩ := bk_new Wm znA 34
 have Bm' : Below W.heap.size W Wm := hym ▸ Bm
 have B1' : Below Wm.heap.size Wm W1 := hy ▸ B1
 have HB1 := B0.trans (Bm'.mono B0.size)
 have HN := (N0.later Bm').later B1'
 replace HG := HG.later B1'
 have HB := HB1.trans (B1'.mono HB1.size)
 have hyn := hI_ (show w.heap.size < y ∧ w.heap.size < ym ∧ ym < y by have := Z0.out; have := Zm.out; omega)
 clear B0 N0 B1 Bm Bm' B1' HB1
 unfold ndA at hW
 unfold mgA at hWm
 unfold znA at hW1
 have HM := hM.later HB
 have HKK := hI_ hK
 have HEE := hI_ (show ∀ w1, Below w.heap.size w w1 → Ents w1 m.at_ m.es from fun w1 hb => hE.later hb)
 have c0 := HN.bx.c 0 _ rfl
 have e1 := HG.bx.c 1 _ rfl
 have e3 := HG.bx.c 3 _ rfl
 clear hM hE
 have HQ := hI_ (show hearP p m = (p, [foreG p m]) by unfold hearP; rw [if_neg (by rintro (h | h | h | h); exact h h1; exact h2 h; exact h h3; exact h4 h), if_pos hk])
 have g1 : (((m.dst : Nat) : Int) == ((p.id : Nat) : Int)) = true := by first | (simp; done) | (simp; omega)
 have g1' : (((m.dst : Nat) : Int) != ((p.id : Nat) : Int)) = false := by first | (simp; done) | (simp; omega)
 have g2 : (((m.fr : Nat) : Int) == ((p.id : Nat) : Int)) = false := by first | (simp; done) | (simp; omega)
 have g2' : (((m.fr : Nat) : Int) != ((p.id : Nat) : Int)) = true := by first | (simp; done) | (simp; omega)
 have g4 : decide ((4611686018427387903 : Int) < (m.term : Int)) = false := by simp; omega
 have gk1 : (m.kind == 1) = true := by rw [hk]; rfl
 have gk2 : (m.kind == 2) = false := by rw [hk]; rfl
 have gk3 : (m.kind == 3) = false := by rw [hk]; rfl
 have gk4 : (m.kind == 4) = false := by rw [hk]; rfl
 have gk5 : (m.kind == 5) = false := by rw [hk]; rfl
 have gk6 : (m.kind == 6) = false := by rw [hk]; rfl
 have gk7 : (m.kind == 7) = false := by rw [hk]; rfl
 clear h1 hk
 go_enter Tryz.func19, Tryz.ntmps19
 go_wp2_with (first
  | (refine lCc rfl _ rfl rfl (ocA rfl) (by assumption) rfl ?_))
 refine (pMayIdR_any m.fr _).mono ?_
 rintro e w2 ⟨rfl, rfl⟩
 rw [show decide (1 ≤ m.fr ∧ m.fr ≤ 63) = true by simp; omega]
 have cm0 := HG.bx.c 0 _ rfl
 go_wp2_with (first
  | (refine lCc rfl _ rfl rfl (ocA rfl) (by assumption) rfl ?_))
 replace HR := HR.later ((Below.refl _ _).drew)
 refine wp_region_held_drew (S := fun w' => Bk w' w.heap.size 34 (ndL p d) ∧ Bk w' ym 59 (mgC m) ∧ NdM K w' p d ∧ Below w.heap.size w w') (by kernel_rfl) (⟨HN.later ((Below.refl _ _).drew), HG.later ((Below.refl _ _).drew), HM.later ((Below.refl _ _).drew), HB.drew⟩) (fun HS => ?_)
 refine tkh (i := 0) (v := (.agg (ndL p d).toArray)) rfl ⟨by rfl, fun _ hSw => eLb _ rfl rfl nodeT hSw.1 rfl⟩ HS ?_
 refine tkh (i := 1) (v := (.agg (ndL p d).toArray)) rfl ⟨by rfl, fun _ hSw => eLb _ rfl rfl nodeT hSw.1 rfl⟩ HS ?_
 refine tkh (i := 2) (v := (.agg (List.toArray (mgC m)))) rfl ⟨by rfl, fun _ hSw => eLb _ rfl rfl messT hSw.2.1 rfl⟩ HS ?_
 try simp only [ly, Act.put]
 refine onh (r := 3) (by kernel_rfl) rfl (fun KK hK => ?_)
 go_simp
 refine (pForetell_any p d hBd m K _ (Nat.le_trans HKK.out HS.2.2.2.size) HS.2.2.1).mono ?_
 rintro e w5 ⟨v, O, rfl, hC, hO, hb⟩
 have HC := hC.mono HS.2.2.2.size
 have HO := hI_ hO
 clear hC hO
 replace HR := HR.later hb
 go_wp2_with fail
 refine hK.out _ _ ⟨HS.1.later hb, HS.2.1.later hb, HS.2.2.1.later hb, HS.2.2.2.trans (hb.mono HS.2.2.2.size)⟩ (fun HS => ?_)
 clear hK
 try simp only [ly, Act.put]
 refine onh (r := 4) (by kernel_rfl) rfl (fun KK hK => ?_)
 rw [if_pos (by rfl)]
 refine wSb _ _ rfl rfl (M := ndL p d) rfl nodeT HR rfl rfl rfl ?_
 intro w' hk hg
 have HS9 := And.intro (HS.1.grown hg (by have := hyn.out; omega)) (And.intro (HS.2.1.grown hg (by have := hyn.out; omega)) (And.intro (HS.2.2.1.grown hg (by have := hyn.out; omega) HR.bx.ty bNd) (bGr HS.2.2.2 hg HS.2.2.2.size (by have := hyn.out; omega))))
 replace HC := HC.box hg HR.bx.ty boxNm
 replace HR := hk
 clear hk hg
 refine hK.out _ _ HS9 (fun HS => ?_)
 clear HS9
 clear hK
 try simp only [ly, Act.put]
 refine tkp (i := 5) rfl HS ?_
 try simp only [ly, Act.put]
 refine wpAnyH_done (by kernel_rfl) ?_ _
 go_wp2_with fail
 refine bodyPost_ret (v := .tuple #[ndV p d, v]) (by rw [rBt Tryz.results19 _ rfl nodeT HR rfl]; rfl) rfl ?_
 rw [HQ.out]
 exact ⟨d, v, O, rfl, HS.2.2.1, HC, HO.out, HS.2.2.2⟩

theorem pHear_k3 (p : Pn) (d : Ad) (hBd : Bd p) (m : Mg) (_ : Bm m) (_ : p.g.L.length + m.es.length ≤ 9000000000000) (_ : p.voices.length * 16 ≤ 140737488352900) (_ : p.next.length * 16 ≤ 140737488352900) (_ : p.mat.length * 16 ≤ 140737488352900) (K : Nat) (w : World) (hK : K ≤ w.heap.size) (hM : NdM K w p d) (hE : Ents w m.at_ m.es) (h1 : m.dst = p.id) (h2 : ¬ m.fr = p.id) (h3 : 1 ≤ m.fr ∧ m.fr ≤ 63) (h4 : ¬ 4611686018427387903 < m.term) (hk : m.kind = 3) :
 Calls Tryz.prog 19 #[ndV p d, mgV m] w (NmP K w (hearP p m)) := by
 obtain ⟨W, hW, B0, N0, Z0⟩ := nk_new w p d
 obtain ⟨Wm, ym, hWm, hym, Bm, HG, Zm⟩ := bk_new W (mgA m) 59
 obtain ⟨W1, y, hW1, hy, B1, HR, Z1⟩ := bk_new Wm znA 34
 have Bm' : Below W.heap.size W Wm := hym ▸ Bm
 have B1' : Below Wm.heap.size Wm W1 := hy ▸ B1
 have HB1 := B0.trans (Bm'.mono B0.size)
 have HN := (N0.later Bm').later B1'
 replace HG := HG.later B1'
 have HB := HB1.trans (B1'.mono HB1.size)
 have hyn := hI_ (show w.heap.size < y ∧ w.heap.size < ym ∧ ym < y by have := Z0.out; have := Zm.out; omega)
 clear B0 N0 B1 Bm Bm' B1' HB1
 unfold ndA at hW
 unfold mgA at hWm
 unfold znA at hW1
 have HM := hM.later HB
 have HKK := hI_ hK
 have HEE := hI_ (show ∀ w1, Below w.heap.size w w1 → Ents w1 m.at_ m.es from fun w1 hb => hE.later hb)
 have c0 := HN.bx.c 0 _ rfl
 have e1 := HG.bx.c 1 _ rfl
 have e3 := HG.bx.c 3 _ rfl
 clear hM hE
 have HQ := hI_ (show hearP p m = (voteP p m, [voteG p m]) by unfold hearP; rw [if_neg (by rintro (h | h | h | h); exact h h1; exact h2 h; exact h h3; exact h4 h), if_neg (by rw [hk]; decide), if_pos hk])
 have g1 : (((m.dst : Nat) : Int) == ((p.id : Nat) : Int)) = true := by first | (simp; done) | (simp; omega)
 have g1' : (((m.dst : Nat) : Int) != ((p.id : Nat) : Int)) = false := by first | (simp; done) | (simp; omega)
 have g2 : (((m.fr : Nat) : Int) == ((p.id : Nat) : Int)) = false := by first | (simp; done) | (simp; omega)
 have g2' : (((m.fr : Nat) : Int) != ((p.id : Nat) : Int)) = true := by first | (simp; done) | (simp; omega)
 have g4 : decide ((4611686018427387903 : Int) < (m.term : Int)) = false := by simp; omega
 have gk1 : (m.kind == 1) = false := by rw [hk]; rfl
 have gk2 : (m.kind == 2) = false := by rw [hk]; rfl
 have gk3 : (m.kind == 3) = true := by rw [hk]; rfl
 have gk4 : (m.kind == 4) = false := by rw [hk]; rfl
 have gk5 : (m.kind == 5) = false := by rw [hk]; rfl
 have gk6 : (m.kind == 6) = false := by rw [hk]; rfl
 have gk7 : (m.kind == 7) = false := by rw [hk]; rfl
 clear h1 hk
 go_enter Tryz.func19, Tryz.ntmps19
 go_wp2_with (first
  | (refine lCc rfl _ rfl rfl (ocA rfl) (by assumption) rfl ?_))
 refine (pMayIdR_any m.fr _).mono ?_
 rintro e w2 ⟨rfl, rfl⟩
 rw [show decide (1 ≤ m.fr ∧ m.fr ≤ 63) = true by simp; omega]
 go_wp2_with (first
  | (refine lCc rfl _ rfl rfl (ocA rfl) (by assumption) rfl ?_)
  | (refine lBk rfl _ rfl rfl nodeT HN rfl ?_)
  | (refine lBk rfl _ rfl rfl messT HG rfl ?_))
 have HSZ := hI_ HB.size
 refine (pVote_any p d hBd m K _ (Nat.le_trans hK HB.size) HM).mono ?_
 obtain ⟨P3, M3, h3⟩ : ∃ P3 M3, (voteP p m, [voteG p m]) = (P3, M3) := ⟨_, _, rfl⟩
 have HQ2 := hI_ (HQ.out.trans h3)
 rw [h3]
 clear h3 HQ
 rintro e w6 ⟨D3, v, O, rfl, hm3, hC, hO, hb⟩
 replace HB := HB.trans (hb.mono HB.size)
 replace HR := HR.later hb
 replace HM := hm3
 replace hC := hC.mono HSZ.out
 simp only at hO HM
 have HO := hI_ hO
 clear hb hm3 hO HN HG
 go_wp2_with (first
  | (refine sBk rfl _ _ rfl rfl rfl nodeT HR rfl rfl rfl ?_; intro w' hk hg; replace HM := HM.grown hg (by have := hyn.out; omega) HR.bx.ty bNd; replace hC := hC.box hg HR.bx.ty boxNm; replace HB := bGr HB hg HB.size (by have := hyn.out; omega); replace HR := hk; clear hk hg))
 refine bodyPost_ret (v := .tuple #[ndV P3 D3, v]) (by rw [rBt Tryz.results19 _ rfl nodeT HR rfl]; rfl) rfl ?_
 rw [HQ2.out]
 exact ⟨D3, v, O, rfl, HM, hC, HO.out, HB⟩
theorem pHear_k2 (p : Pn) (d : Ad) (hBd : Bd p) (m : Mg) (hm : Bm m) (_ : p.g.L.length + m.es.length ≤ 9000000000000) (hvb : p.voices.length * 16 ≤ 140737488352900) (_ : p.next.length * 16 ≤ 140737488352900) (_ : p.mat.length * 16 ≤ 140737488352900) (K : Nat) (w : World) (hK : K ≤ w.heap.size) (hM : NdM K w p d) (hE : Ents w m.at_ m.es) (h1 : m.dst = p.id) (h2 : ¬ m.fr = p.id) (h3 : 1 ≤ m.fr ∧ m.fr ≤ 63) (h4 : ¬ 4611686018427387903 < m.term) (hk : m.kind = 2) :
 Calls Tryz.prog 19 #[ndV p d, mgV m] w (NmP K w (hearP p m)) := by
 obtain ⟨W, hW, B0, N0, Z0⟩ := nk_new w p d
 obtain ⟨Wm, ym, hWm, hym, Bm, HG, Zm⟩ := bk_new W (mgA m) 59
 obtain ⟨W1, y, hW1, hy, B1, HR, Z1⟩ := bk_new Wm znA 34
 have Bm' : Below W.heap.size W Wm := hym ▸ Bm
 have B1' : Below Wm.heap.size Wm W1 := hy ▸ B1
 have HB1 := B0.trans (Bm'.mono B0.size)
 have HN := (N0.later Bm').later B1'
 replace HG := HG.later B1'
 have HB := HB1.trans (B1'.mono HB1.size)
 have hyn := hI_ (show w.heap.size < y ∧ w.heap.size < ym ∧ ym < y by have := Z0.out; have := Zm.out; omega)
 clear B0 N0 B1 Bm Bm' B1' HB1
 unfold ndA at hW
 unfold mgA at hWm
 unfold znA at hW1
 have HM := hM.later HB
 have HKK := hI_ hK
 have HEE := hI_ (show ∀ w1, Below w.heap.size w w1 → Ents w1 m.at_ m.es from fun w1 hb => hE.later hb)
 have c0 := HN.bx.c 0 _ rfl
 have e1 := HG.bx.c 1 _ rfl
 have e3 := HG.bx.c 3 _ rfl
 clear hM hE
 have HQ := hI_ (show hearP p m = foretP p m by unfold hearP; rw [if_neg (by rintro (h | h | h | h); exact h h1; exact h2 h; exact h h3; exact h4 h), if_neg (by rw [hk]; decide), if_neg (by rw [hk]; decide), if_pos hk])
 have g1 : (((m.dst : Nat) : Int) == ((p.id : Nat) : Int)) = true := by first | (simp; done) | (simp; omega)
 have g1' : (((m.dst : Nat) : Int) != ((p.id : Nat) : Int)) = false := by first | (simp; done) | (simp; omega)
 have g2 : (((m.fr : Nat) : Int) == ((p.id : Nat) : Int)) = false := by first | (simp; done) | (simp; omega)
 have g2' : (((m.fr : Nat) : Int) != ((p.id : Nat) : Int)) = true := by first | (simp; done) | (simp; omega)
 have g4 : decide ((4611686018427387903 : Int) < (m.term : Int)) = false := by simp; omega
 have gk1 : (m.kind == 1) = false := by rw [hk]; rfl
 have gk2 : (m.kind == 2) = true := by rw [hk]; rfl
 have gk3 : (m.kind == 3) = false := by rw [hk]; rfl
 have gk4 : (m.kind == 4) = false := by rw [hk]; rfl
 have gk5 : (m.kind == 5) = false := by rw [hk]; rfl
 have gk6 : (m.kind == 6) = false := by rw [hk]; rfl
 have gk7 : (m.kind == 7) = false := by rw [hk]; rfl
 clear h1 hk
 go_enter Tryz.func19, Tryz.ntmps19
 go_wp2_with (first
  | (refine lCc rfl _ rfl rfl (ocA rfl) (by assumption) rfl ?_))
 refine (pMayIdR_any m.fr _).mono ?_
 rintro e w2 ⟨rfl, rfl⟩
 rw [show decide (1 ≤ m.fr ∧ m.fr ≤ 63) = true by simp; omega]
 go_wp2_with (first
  | (refine lCc rfl _ rfl rfl (ocA rfl) (by assumption) rfl ?_)
  | (refine lBk rfl _ rfl rfl nodeT HN rfl ?_)
  | (refine lBk rfl _ rfl rfl messT HG rfl ?_))
 have HSZ := hI_ HB.size
 refine (pHearForetold_any rmOk p d hBd hvb m hm.fr K _ (Nat.le_trans hK HB.size) HM).mono ?_
 obtain ⟨P3, M3, h3⟩ : ∃ P3 M3, foretP p m = (P3, M3) := ⟨_, _, rfl⟩
 have HQ2 := hI_ (HQ.out.trans h3)
 rw [h3]
 clear h3 HQ
 rintro e w6 ⟨D3, v, O, rfl, hm3, hC, hO, hb⟩
 replace HB := HB.trans (hb.mono HB.size)
 replace HR := HR.later hb
 replace HM := hm3
 replace hC := hC.mono HSZ.out
 simp only at hO HM
 have HO := hI_ hO
 clear hb hm3 hO HN HG
 go_wp2_with (first
  | (refine sBk rfl _ _ rfl rfl rfl nodeT HR rfl rfl rfl ?_; intro w' hk hg; replace HM := HM.grown hg (by have := hyn.out; omega) HR.bx.ty bNd; replace hC := hC.box hg HR.bx.ty boxNm; replace HB := bGr HB hg HB.size (by have := hyn.out; omega); replace HR := hk; clear hk hg))
 refine bodyPost_ret (v := .tuple #[ndV P3 D3, v]) (by rw [rBt Tryz.results19 _ rfl nodeT HR rfl]; rfl) rfl ?_
 rw [HQ2.out]
 exact ⟨D3, v, O, rfl, HM, hC, HO.out, HB⟩

theorem stabT : StT 30 6 := ⟨fun w => by kernel_rfl, fun w => by kernel_rfl⟩
def newOk (id : Nat) (c : Cf) (t v : Nat) (g : Lg) : Prop := (1 ≤ id ∧ id ≤ 63) ∧ mayB c.V c.L = true ∧ stOk t v g.base g.bt g.snap g.L
def NwP (K : Nat) (w : World) (id : Nat) (c : Cf) (t v : Nat) (g : Lg) (e : Ending) (w' : World) : Prop :=
 ((newOk id c t v g ∧ ∃ d, e = .returned (.tuple #[ndV (newP id c t v g) d, .int .i64 0]) ∧ NdM K w' (newP id c t v g) d) ∨ (¬ newOk id c t v g ∧ e = .returned (.tuple #[.agg znA, .int .i64 1]))) ∧ Below w.heap.size w w'
theorem us_lt {w : World} {a : Option Addr} {L : List Nat} (h : Us w a L) : 0 < L.length → ∀ q, a = some q → q.block < w.heap.size := fun h0 q e => by
 obtain ⟨b, off, e2, hb⟩ := h.addr h0
 rw [e2] at e; cases e; exact hb
theorem ents_lt {w : World} {a : Option Addr} {L : List En} (h : Ents w a L) : 0 < L.length → ∀ q, a = some q → q.block < w.heap.size := fun h0 q e => by
 obtain ⟨b, off, e2, hb⟩ := h.addr h0
 rw [e2] at e; cases e; exact hb
theorem pNew_1 (id : Nat) (c : Cf) (s1 s2 es : Sa) (t v : Nat) (g : Lg) (hid : id < 18446744073709551616) (hv : c.V.length ≤ 140737488351232) (hl : c.L.length ≤ 140737488351232) (he : g.L.length ≤ 140737488351232) (_ : g.L.length ≤ es.c) (_ : es.c ≤ maxLen) (hs : g.snap.size ≤ 140737488351232) (hD : ∀ x ∈ g.L, x.d.size ≤ 140737488351232) (K : Nat) (w : World) (_ : w.heap.size ≤ K) (hV : Us w s1.a c.V) (hL : Us w s2.a c.L) (hE : Ents w es.a g.L) (h1 : ¬ (1 ≤ id ∧ id ≤ 63)) :
 Calls Tryz.prog 16 #[.int .u64 id, .agg #[.slice s1.a c.V.length s1.c, .slice s2.a c.L.length s2.c], .agg #[.int .u64 t, .int .u64 v, .int .u64 g.base, .int .u64 g.bt, .string g.snap, .slice es.a g.L.length es.c]] w (NwP K w id c t v g) := by
 obtain ⟨W, xc, hW, hxc, B0, HC, Z0⟩ := bk_new w #[.slice s1.a c.V.length s1.c, .slice s2.a c.L.length s2.c] 25
 obtain ⟨W1, xs, hW1, hxs, B1, HS, Z1⟩ := bk_new W #[.int .u64 t, .int .u64 v, .int .u64 g.base, .int .u64 g.bt, .string g.snap, .slice es.a g.L.length es.c] 30
 obtain ⟨W2, y, hW2, hy, B2, HR, Z2⟩ := bk_new W1 znA 34
 have B0' : Below w.heap.size w W := hxc ▸ B0
 have B1' : Below W.heap.size W W1 := hxs ▸ B1
 have B2' : Below W1.heap.size W1 W2 := hy ▸ B2
 replace HC := (HC.later B1').later B2'
 replace HS := HS.later B2'
 have HB1 := B0'.trans (B1'.mono B0'.size)
 have HB := HB1.trans (B2'.mono HB1.size)
 have hyn := hI_ (show w.heap.size = xc ∧ xc < xs ∧ xs < y by have := Z0.out; have := Z1.out; omega)
 clear B0 B1 B2 B0' B1' B2' HB1
 unfold znA at hW2
 have HMY := hI_ (show ∀ w1, Below w.heap.size w w1 → Calls Tryz.prog 56 #[.agg #[.slice s1.a c.V.length s1.c, .slice s2.a c.L.length s2.c]] w1 fun e w' => e = .returned (.bool (mayB c.V c.L)) ∧ Below w1.heap.size w1 w' from fun w1 hb => pMay_any _ _ _ _ _ _ c.V c.L rfl hv rfl hl w1 (hV.later hb) (hL.later hb))
 have HNM := hI_ (show ∀ w1, Below w.heap.size w w1 → Calls Tryz.prog 57 #[.agg #[.int .u64 t, .int .u64 v, .int .u64 g.base, .int .u64 g.bt, .string g.snap, .slice es.a g.L.length es.c]] w1 (MayP (stOk t v g.base g.bt g.snap g.L) w1) from fun w1 hb => noteMay_any _ _ _ _ _ _ _ _ g.L rfl he hs hD w1 (hE.later hb))
 have HX := hI_ (show ∀ w', Below w.heap.size w w' → NwP K w id c t v g (.returned (.tuple #[.agg znA, .int .i64 1])) w' from fun w' hb => ⟨.inr ⟨fun h => h1 h.1, rfl⟩, hb⟩)
 clear hV hL hE
 go_enter Tryz.func16, Tryz.ntmps16
 go_wp2_with fail
 refine (pMayIdR_any id _).mono ?_
 rintro e w2 ⟨rfl, rfl⟩
 rw [show decide (1 ≤ id ∧ id ≤ 63) = false by simp; omega]
 go_wp2_with (first
  | (refine sBk rfl _ _ rfl rfl (M := znA.toList) rfl nodeT HR rfl rfl rfl ?_; intro w' hk hg; replace HB := bGr HB hg HB.size (by have := hyn.out; omega); replace HR := hk; clear hk hg))
 refine bodyPost_ret (v := .tuple #[.agg znA, .int .i64 1]) (by rw [rBt Tryz.results16 _ rfl nodeT HR rfl]; rfl) rfl ?_
 exact HX.out _ HB
theorem pNew_2 (id : Nat) (c : Cf) (s1 s2 es : Sa) (t v : Nat) (g : Lg) (_ : id < 18446744073709551616) (hv : c.V.length ≤ 140737488351232) (hl : c.L.length ≤ 140737488351232) (he : g.L.length ≤ 140737488351232) (_ : g.L.length ≤ es.c) (_ : es.c ≤ maxLen) (hs : g.snap.size ≤ 140737488351232) (hD : ∀ x ∈ g.L, x.d.size ≤ 140737488351232) (K : Nat) (w : World) (_ : w.heap.size ≤ K) (hV : Us w s1.a c.V) (hL : Us w s2.a c.L) (hE : Ents w es.a g.L) (h1 : 1 ≤ id ∧ id ≤ 63) (hm : mayB c.V c.L = false) :
 Calls Tryz.prog 16 #[.int .u64 id, .agg #[.slice s1.a c.V.length s1.c, .slice s2.a c.L.length s2.c], .agg #[.int .u64 t, .int .u64 v, .int .u64 g.base, .int .u64 g.bt, .string g.snap, .slice es.a g.L.length es.c]] w (NwP K w id c t v g) := by
 obtain ⟨W, xc, hW, hxc, B0, HC, Z0⟩ := bk_new w #[.slice s1.a c.V.length s1.c, .slice s2.a c.L.length s2.c] 25
 obtain ⟨W1, xs, hW1, hxs, B1, HS, Z1⟩ := bk_new W #[.int .u64 t, .int .u64 v, .int .u64 g.base, .int .u64 g.bt, .string g.snap, .slice es.a g.L.length es.c] 30
 obtain ⟨W2, y, hW2, hy, B2, HR, Z2⟩ := bk_new W1 znA 34
 have B0' : Below w.heap.size w W := hxc ▸ B0
 have B1' : Below W.heap.size W W1 := hxs ▸ B1
 have B2' : Below W1.heap.size W1 W2 := hy ▸ B2
 replace HC := (HC.later B1').later B2'
 replace HS := HS.later B2'
 have HB1 := B0'.trans (B1'.mono B0'.size)
 have HB := HB1.trans (B2'.mono HB1.size)
 have hyn := hI_ (show w.heap.size = xc ∧ xc < xs ∧ xs < y by have := Z0.out; have := Z1.out; omega)
 clear B0 B1 B2 B0' B1' B2' HB1
 unfold znA at hW2
 have HMY := hI_ (show ∀ w1, Below w.heap.size w w1 → Calls Tryz.prog 56 #[.agg #[.slice s1.a c.V.length s1.c, .slice s2.a c.L.length s2.c]] w1 fun e w' => e = .returned (.bool (mayB c.V c.L)) ∧ Below w1.heap.size w1 w' from fun w1 hb => pMay_any _ _ _ _ _ _ c.V c.L rfl hv rfl hl w1 (hV.later hb) (hL.later hb))
 have HNM := hI_ (show ∀ w1, Below w.heap.size w w1 → Calls Tryz.prog 57 #[.agg #[.int .u64 t, .int .u64 v, .int .u64 g.base, .int .u64 g.bt, .string g.snap, .slice es.a g.L.length es.c]] w1 (MayP (stOk t v g.base g.bt g.snap g.L) w1) from fun w1 hb => noteMay_any _ _ _ _ _ _ _ _ g.L rfl he hs hD w1 (hE.later hb))
 have HX := hI_ (show ∀ w', Below w.heap.size w w' → NwP K w id c t v g (.returned (.tuple #[.agg znA, .int .i64 1])) w' from fun w' hb => ⟨.inr ⟨fun h => by have := h.2.1; rw [hm] at this; exact absurd this (by decide), rfl⟩, hb⟩)
 clear hV hL hE
 go_enter Tryz.func16, Tryz.ntmps16
 go_wp2_with fail
 refine (pMayIdR_any id _).mono ?_
 rintro e w2 ⟨rfl, rfl⟩
 rw [show decide (1 ≤ id ∧ id ≤ 63) = true by simp; omega]
 go_wp2_with (first
  | (refine wpList_load_bkg (by rfl) _ rfl rfl confT HC rfl ?_))
 refine (HMY.out _ HB).mono ?_
 rintro e w3 ⟨rfl, hb⟩
 rw [hm]
 replace HB := HB.trans (hb.mono HB.size)
 replace HC := HC.later hb
 replace HS := HS.later hb
 replace HR := HR.later hb
 clear hb
 go_wp2_with (first
  | (refine sBk rfl _ _ rfl rfl (M := znA.toList) rfl nodeT HR rfl rfl rfl ?_; intro w' hk hg; replace HB := bGr HB hg HB.size (by have := hyn.out; omega); replace HR := hk; clear hk hg))
 refine bodyPost_ret (v := .tuple #[.agg znA, .int .i64 1]) (by rw [rBt Tryz.results16 _ rfl nodeT HR rfl]; rfl) rfl ?_
 exact HX.out _ HB
theorem pNew_3 (id : Nat) (c : Cf) (s1 s2 es : Sa) (t v : Nat) (g : Lg) (_ : id < 18446744073709551616) (hv : c.V.length ≤ 140737488351232) (hl : c.L.length ≤ 140737488351232) (he : g.L.length ≤ 140737488351232) (_ : g.L.length ≤ es.c) (_ : es.c ≤ maxLen) (hs : g.snap.size ≤ 140737488351232) (hD : ∀ x ∈ g.L, x.d.size ≤ 140737488351232) (K : Nat) (w : World) (_ : w.heap.size ≤ K) (hV : Us w s1.a c.V) (hL : Us w s2.a c.L) (hE : Ents w es.a g.L) (h1 : 1 ≤ id ∧ id ≤ 63) (hm : mayB c.V c.L = true) (h3 : ¬ stOk t v g.base g.bt g.snap g.L) :
 Calls Tryz.prog 16 #[.int .u64 id, .agg #[.slice s1.a c.V.length s1.c, .slice s2.a c.L.length s2.c], .agg #[.int .u64 t, .int .u64 v, .int .u64 g.base, .int .u64 g.bt, .string g.snap, .slice es.a g.L.length es.c]] w (NwP K w id c t v g) := by
 obtain ⟨W, xc, hW, hxc, B0, HC, Z0⟩ := bk_new w #[.slice s1.a c.V.length s1.c, .slice s2.a c.L.length s2.c] 25
 obtain ⟨W1, xs, hW1, hxs, B1, HS, Z1⟩ := bk_new W #[.int .u64 t, .int .u64 v, .int .u64 g.base, .int .u64 g.bt, .string g.snap, .slice es.a g.L.length es.c] 30
 obtain ⟨W2, y, hW2, hy, B2, HR, Z2⟩ := bk_new W1 znA 34
 have B0' : Below w.heap.size w W := hxc ▸ B0
 have B1' : Below W.heap.size W W1 := hxs ▸ B1
 have B2' : Below W1.heap.size W1 W2 := hy ▸ B2
 replace HC := (HC.later B1').later B2'
 replace HS := HS.later B2'
 have HB1 := B0'.trans (B1'.mono B0'.size)
 have HB := HB1.trans (B2'.mono HB1.size)
 have hyn := hI_ (show w.heap.size = xc ∧ xc < xs ∧ xs < y by have := Z0.out; have := Z1.out; omega)
 clear B0 B1 B2 B0' B1' B2' HB1
 unfold znA at hW2
 have HMY := hI_ (show ∀ w1, Below w.heap.size w w1 → Calls Tryz.prog 56 #[.agg #[.slice s1.a c.V.length s1.c, .slice s2.a c.L.length s2.c]] w1 fun e w' => e = .returned (.bool (mayB c.V c.L)) ∧ Below w1.heap.size w1 w' from fun w1 hb => pMay_any _ _ _ _ _ _ c.V c.L rfl hv rfl hl w1 (hV.later hb) (hL.later hb))
 have HNM := hI_ (show ∀ w1, Below w.heap.size w w1 → Calls Tryz.prog 57 #[.agg #[.int .u64 t, .int .u64 v, .int .u64 g.base, .int .u64 g.bt, .string g.snap, .slice es.a g.L.length es.c]] w1 (MayP (stOk t v g.base g.bt g.snap g.L) w1) from fun w1 hb => noteMay_any _ _ _ _ _ _ _ _ g.L rfl he hs hD w1 (hE.later hb))
 have HX := hI_ (show ∀ w', Below w.heap.size w w' → NwP K w id c t v g (.returned (.tuple #[.agg znA, .int .i64 1])) w' from fun w' hb => ⟨.inr ⟨fun h => h3 h.2.2, rfl⟩, hb⟩)
 clear hV hL hE
 go_enter Tryz.func16, Tryz.ntmps16
 go_wp2_with fail
 refine (pMayIdR_any id _).mono ?_
 rintro e w2 ⟨rfl, rfl⟩
 rw [show decide (1 ≤ id ∧ id ≤ 63) = true by simp; omega]
 go_wp2_with (first
  | (refine wpList_load_bkg (by rfl) _ rfl rfl confT HC rfl ?_))
 refine (HMY.out _ HB).mono ?_
 rintro e w3 ⟨rfl, hb⟩
 rw [hm]
 replace HB := HB.trans (hb.mono HB.size)
 replace HC := HC.later hb
 replace HS := HS.later hb
 replace HR := HR.later hb
 clear hb
 go_wp2_with (first
  | (refine wpList_load_bkg (by rfl) _ rfl rfl stabT HS rfl ?_))
 refine (HNM.out _ HB).mono ?_
 rintro e w4 ⟨⟨b, rfl, hbi⟩, hb⟩
 obtain rfl : b = false := by cases b; rfl; exact absurd (hbi.1 rfl) h3
 replace HB := HB.trans (hb.mono HB.size)
 replace HC := HC.later hb
 replace HS := HS.later hb
 replace HR := HR.later hb
 clear hb
 go_wp2_with (first
  | (refine sBk rfl _ _ rfl rfl (M := znA.toList) rfl nodeT HR rfl rfl rfl ?_; intro w' hk hg; replace HB := bGr HB hg HB.size (by have := hyn.out; omega); replace HR := hk; clear hk hg))
 refine bodyPost_ret (v := .tuple #[.agg znA, .int .i64 1]) (by rw [rBt Tryz.results16 _ rfl nodeT HR rfl]; rfl) rfl ?_
 exact HX.out _ HB
theorem pNew_4 (id : Nat) (c : Cf) (s1 s2 es : Sa) (t v : Nat) (g : Lg) (_ : id < 18446744073709551616) (hv : c.V.length ≤ 140737488351232) (hl : c.L.length ≤ 140737488351232) (he : g.L.length ≤ 140737488351232) (hec : g.L.length ≤ es.c) (hem : es.c ≤ maxLen) (hs : g.snap.size ≤ 140737488351232) (hD : ∀ x ∈ g.L, x.d.size ≤ 140737488351232) (K : Nat) (w : World) (hK : w.heap.size ≤ K) (hV : Us w s1.a c.V) (hL : Us w s2.a c.L) (hE : Ents w es.a g.L) (h1 : 1 ≤ id ∧ id ≤ 63) (hm : mayB c.V c.L = true) (h3 : stOk t v g.base g.bt g.snap g.L) :
 Calls Tryz.prog 16 #[.int .u64 id, .agg #[.slice s1.a c.V.length s1.c, .slice s2.a c.L.length s2.c], .agg #[.int .u64 t, .int .u64 v, .int .u64 g.base, .int .u64 g.bt, .string g.snap, .slice es.a g.L.length es.c]] w (NwP K w id c t v g) := by
 obtain ⟨W, xc, hW, hxc, B0, HC, Z0⟩ := bk_new w #[.slice s1.a c.V.length s1.c, .slice s2.a c.L.length s2.c] 25
 obtain ⟨W1, xs, hW1, hxs, B1, HS, Z1⟩ := bk_new W #[.int .u64 t, .int .u64 v, .int .u64 g.base, .int .u64 g.bt, .string g.snap, .slice es.a g.L.length es.c] 30
 obtain ⟨W2, y, hW2, hy, B2, HR, Z2⟩ := bk_new W1 znA 34
 have B0' : Below w.heap.size w W := hxc ▸ B0
 have B1' : Below W.heap.size W W1 := hxs ▸ B1
 have B2' : Below W1.heap.size W1 W2 := hy ▸ B2
 replace HC := (HC.later B1').later B2'
 replace HS := HS.later B2'
 have HB1 := B0'.trans (B1'.mono B0'.size)
 have HB := HB1.trans (B2'.mono HB1.size)
 have hyn := hI_ (show w.heap.size = xc ∧ xc < xs ∧ xs < y by have := Z0.out; have := Z1.out; omega)
 clear B0 B1 B2 B0' B1' B2' HB1
 unfold znA at hW2
 have HMY := hI_ (show ∀ w1, Below w.heap.size w w1 → Calls Tryz.prog 56 #[.agg #[.slice s1.a c.V.length s1.c, .slice s2.a c.L.length s2.c]] w1 fun e w' => e = .returned (.bool (mayB c.V c.L)) ∧ Below w1.heap.size w1 w' from fun w1 hb => pMay_any _ _ _ _ _ _ c.V c.L rfl hv rfl hl w1 (hV.later hb) (hL.later hb))
 have HNM := hI_ (show ∀ w1, Below w.heap.size w w1 → Calls Tryz.prog 57 #[.agg #[.int .u64 t, .int .u64 v, .int .u64 g.base, .int .u64 g.bt, .string g.snap, .slice es.a g.L.length es.c]] w1 (MayP (stOk t v g.base g.bt g.snap g.L) w1) from fun w1 hb => noteMay_any _ _ _ _ _ _ _ _ g.L rfl he hs hD w1 (hE.later hb))
 have HX := hI_ (show ∀ w', Below w.heap.size w w' → NwP K w id c t v g (.returned (.tuple #[ndV (newP id c t v g) ⟨s1, s2, es, ⟨none, 0⟩, ⟨none, 0⟩, ⟨none, 0⟩⟩, .int .i64 0])) w' from fun w' hb => ⟨.inl ⟨⟨h1, hm, h3⟩, ⟨s1, s2, es, ⟨none, 0⟩, ⟨none, 0⟩, ⟨none, 0⟩⟩, rfl, ⟨hV.later hb, hL.later hb, hE.later hb, hec, hem, Rw.nil _, (fun j x hx => by simp [newP] at hx), (fun j x hx => by simp [newP] at hx), (Ty.elder (us_lt hV) hK).later hb, (Ty.elder (us_lt hL) hK).later hb, (Ty.elder (ents_lt hE) hK).later hb, Ty.nil _ _ _ _, Ty.nil _ _ _ _, Ty.nil _ _ _ _⟩⟩, hb⟩)
 clear hV hL hE
 go_enter Tryz.func16, Tryz.ntmps16
 go_wp2_with fail
 refine (pMayIdR_any id _).mono ?_
 rintro e w2 ⟨rfl, rfl⟩
 rw [show decide (1 ≤ id ∧ id ≤ 63) = true by simp; omega]
 go_wp2_with (first
  | (refine wpList_load_bkg (by rfl) _ rfl rfl confT HC rfl ?_))
 refine (HMY.out _ HB).mono ?_
 rintro e w3 ⟨rfl, hb⟩
 rw [hm]
 replace HB := HB.trans (hb.mono HB.size)
 replace HC := HC.later hb
 replace HS := HS.later hb
 replace HR := HR.later hb
 clear hb
 go_wp2_with (first
  | (refine wpList_load_bkg (by rfl) _ rfl rfl stabT HS rfl ?_))
 refine (HNM.out _ HB).mono ?_
 rintro e w4 ⟨⟨b, rfl, hbi⟩, hb⟩
 obtain rfl : b = true := by cases b; exact absurd (hbi.2 h3) (by decide); rfl
 replace HB := HB.trans (hb.mono HB.size)
 replace HC := HC.later hb
 replace HS := HS.later hb
 replace HR := HR.later hb
 clear hb
 have cs2 := HS.bx.c 2 _ rfl
 have cs2' := HS.bx.fz 2
 clear hm h3 h1 hbi
 go_wp2_with (first
  | (refine lBk rfl _ rfl rfl confT HC rfl ?_)
  | (refine lBk rfl _ rfl rfl stabT HS rfl ?_)
  | (refine sBk rfl _ _ rfl rfl (M := ndL (newP id c t v g) ⟨s1, s2, es, ⟨none, 0⟩, ⟨none, 0⟩, ⟨none, 0⟩⟩) rfl nodeT HR rfl rfl rfl ?_; intro w' hk hg; replace HB := bGr HB hg HB.size (by have := hyn.out; omega); replace HR := hk; clear hk hg))
 refine bodyPost_ret (v := .tuple #[ndV (newP id c t v g) ⟨s1, s2, es, ⟨none, 0⟩, ⟨none, 0⟩, ⟨none, 0⟩⟩, .int .i64 0]) (by rw [rBt Tryz.results16 _ rfl nodeT HR rfl]; rfl) rfl ?_
 exact HX.out _ HB
theorem pNew_any (id : Nat) (c : Cf) (s1 s2 es : Sa) (t v : Nat) (g : Lg) (hid : id < 18446744073709551616) (hv : c.V.length ≤ 140737488351232) (hl : c.L.length ≤ 140737488351232) (he : g.L.length ≤ 140737488351232) (hec : g.L.length ≤ es.c) (hem : es.c ≤ maxLen) (hs : g.snap.size ≤ 140737488351232) (hD : ∀ x ∈ g.L, x.d.size ≤ 140737488351232) (K : Nat) (w : World) (hK : w.heap.size ≤ K) (hV : Us w s1.a c.V) (hL : Us w s2.a c.L) (hE : Ents w es.a g.L) :
 Calls Tryz.prog 16 #[.int .u64 id, .agg #[.slice s1.a c.V.length s1.c, .slice s2.a c.L.length s2.c], .agg #[.int .u64 t, .int .u64 v, .int .u64 g.base, .int .u64 g.bt, .string g.snap, .slice es.a g.L.length es.c]] w (NwP K w id c t v g) := by
 by_cases h1 : 1 ≤ id ∧ id ≤ 63
 · cases hm : mayB c.V c.L
   · exact pNew_2 id c s1 s2 es t v g hid hv hl he hec hem hs hD K w hK hV hL hE h1 hm
   · by_cases h3 : stOk t v g.base g.bt g.snap g.L
     · exact pNew_4 id c s1 s2 es t v g hid hv hl he hec hem hs hD K w hK hV hL hE h1 hm h3
     · exact pNew_3 id c s1 s2 es t v g hid hv hl he hec hem hs hD K w hK hV hL hE h1 hm h3
 · exact pNew_1 id c s1 s2 es t v g hid hv hl he hec hem hs hD K w hK hV hL hE h1

theorem pHear_r1 (p : Pn) (d : Ad) (_ : Bd p) (m : Mg) (_ : Bm m) (_ : p.g.L.length + m.es.length ≤ 9000000000000) (_ : p.voices.length * 16 ≤ 140737488352900) (_ : p.next.length * 16 ≤ 140737488352900) (_ : p.mat.length * 16 ≤ 140737488352900) (K : Nat) (w : World) (hK : K ≤ w.heap.size) (hM : NdM K w p d) (hE : Ents w m.at_ m.es) (h1 : ¬ m.dst = p.id) :
 Calls Tryz.prog 19 #[ndV p d, mgV m] w (NmP K w (hearP p m)) := by
 obtain ⟨W, hW, B0, N0, Z0⟩ := nk_new w p d
 obtain ⟨Wm, ym, hWm, hym, Bm, HG, Zm⟩ := bk_new W (mgA m) 59
 obtain ⟨W1, y, hW1, hy, B1, HR, Z1⟩ := bk_new Wm znA 34
 have Bm' : Below W.heap.size W Wm := hym ▸ Bm
 have B1' : Below Wm.heap.size Wm W1 := hy ▸ B1
 have HB1 := B0.trans (Bm'.mono B0.size)
 have HN := (N0.later Bm').later B1'
 replace HG := HG.later B1'
 have HB := HB1.trans (B1'.mono HB1.size)
 have hyn := hI_ (show w.heap.size < y ∧ w.heap.size < ym ∧ ym < y by have := Z0.out; have := Zm.out; omega)
 clear B0 N0 B1 Bm Bm' B1' HB1
 unfold ndA at hW
 unfold mgA at hWm
 unfold znA at hW1
 have HM := hM.later HB
 have HKK := hI_ hK
 have HEE := hI_ (show ∀ w1, Below w.heap.size w w1 → Ents w1 m.at_ m.es from fun w1 hb => hE.later hb)
 have c0 := HN.bx.c 0 _ rfl
 have e1 := HG.bx.c 1 _ rfl
 have e3 := HG.bx.c 3 _ rfl
 clear hM hE
 have HQ := hI_ (show hearP p m = (p, []) by unfold hearP; rw [if_pos (.inl h1)])
 have g1 : (((m.dst : Nat) : Int) == ((p.id : Nat) : Int)) = false := by first | (simp; done) | (simp; omega)
 have g1' : (((m.dst : Nat) : Int) != ((p.id : Nat) : Int)) = true := by first | (simp; done) | (simp; omega)
 go_enter Tryz.func19, Tryz.ntmps19
 go_wp2_with (first
  | (refine lCc rfl _ rfl rfl (ocA rfl) (by assumption) rfl ?_)
  | (refine lBk rfl _ rfl rfl nodeT HN rfl ?_)
  | (refine sBk rfl _ _ rfl rfl rfl nodeT HR rfl rfl rfl ?_; intro w' hk hg; replace HN := HN.grown hg (by have := hyn.out; omega); replace HG := HG.grown hg (by have := hyn.out; omega); replace HM := HM.grown hg (by have := hyn.out; omega) HR.bx.ty bNd; replace HB := bGr HB hg HB.size (by have := hyn.out; omega); replace HR := hk; clear hk hg))
 refine bodyPost_ret (v := .tuple #[ndV p d, .slice none 0 0]) (by rw [rBt Tryz.results19 _ rfl nodeT HR rfl]; rfl) rfl ?_
 rw [HQ.out]
 exact ⟨d, _, [], rfl, HM, CqG.nil _ _ none, rfl, HB⟩
theorem pHear_r2 (p : Pn) (d : Ad) (_ : Bd p) (m : Mg) (_ : Bm m) (_ : p.g.L.length + m.es.length ≤ 9000000000000) (_ : p.voices.length * 16 ≤ 140737488352900) (_ : p.next.length * 16 ≤ 140737488352900) (_ : p.mat.length * 16 ≤ 140737488352900) (K : Nat) (w : World) (hK : K ≤ w.heap.size) (hM : NdM K w p d) (hE : Ents w m.at_ m.es) (h1 : m.dst = p.id) (h2 : m.fr = p.id) :
 Calls Tryz.prog 19 #[ndV p d, mgV m] w (NmP K w (hearP p m)) := by
 obtain ⟨W, hW, B0, N0, Z0⟩ := nk_new w p d
 obtain ⟨Wm, ym, hWm, hym, Bm, HG, Zm⟩ := bk_new W (mgA m) 59
 obtain ⟨W1, y, hW1, hy, B1, HR, Z1⟩ := bk_new Wm znA 34
 have Bm' : Below W.heap.size W Wm := hym ▸ Bm
 have B1' : Below Wm.heap.size Wm W1 := hy ▸ B1
 have HB1 := B0.trans (Bm'.mono B0.size)
 have HN := (N0.later Bm').later B1'
 replace HG := HG.later B1'
 have HB := HB1.trans (B1'.mono HB1.size)
 have hyn := hI_ (show w.heap.size < y ∧ w.heap.size < ym ∧ ym < y by have := Z0.out; have := Zm.out; omega)
 clear B0 N0 B1 Bm Bm' B1' HB1
 unfold ndA at hW
 unfold mgA at hWm
 unfold znA at hW1
 have HM := hM.later HB
 have HKK := hI_ hK
 have HEE := hI_ (show ∀ w1, Below w.heap.size w w1 → Ents w1 m.at_ m.es from fun w1 hb => hE.later hb)
 have c0 := HN.bx.c 0 _ rfl
 have e1 := HG.bx.c 1 _ rfl
 have e3 := HG.bx.c 3 _ rfl
 clear hM hE
 have HQ := hI_ (show hearP p m = (p, []) by unfold hearP; rw [if_pos (.inr (.inl h2))])
 have g1 : (((m.dst : Nat) : Int) == ((p.id : Nat) : Int)) = true := by first | (simp; done) | (simp; omega)
 have g1' : (((m.dst : Nat) : Int) != ((p.id : Nat) : Int)) = false := by first | (simp; done) | (simp; omega)
 have g2 : (((m.fr : Nat) : Int) == ((p.id : Nat) : Int)) = true := by first | (simp; done) | (simp; omega)
 have g2' : (((m.fr : Nat) : Int) != ((p.id : Nat) : Int)) = false := by first | (simp; done) | (simp; omega)
 clear h1 h2
 go_enter Tryz.func19, Tryz.ntmps19
 go_wp2_with (first
  | (refine lCc rfl _ rfl rfl (ocA rfl) (by assumption) rfl ?_)
  | (refine lBk rfl _ rfl rfl nodeT HN rfl ?_)
  | (refine sBk rfl _ _ rfl rfl rfl nodeT HR rfl rfl rfl ?_; intro w' hk hg; replace HN := HN.grown hg (by have := hyn.out; omega); replace HG := HG.grown hg (by have := hyn.out; omega); replace HM := HM.grown hg (by have := hyn.out; omega) HR.bx.ty bNd; replace HB := bGr HB hg HB.size (by have := hyn.out; omega); replace HR := hk; clear hk hg))
 refine bodyPost_ret (v := .tuple #[ndV p d, .slice none 0 0]) (by rw [rBt Tryz.results19 _ rfl nodeT HR rfl]; rfl) rfl ?_
 rw [HQ.out]
 exact ⟨d, _, [], rfl, HM, CqG.nil _ _ none, rfl, HB⟩
theorem pHear_r3 (p : Pn) (d : Ad) (_ : Bd p) (m : Mg) (_ : Bm m) (_ : p.g.L.length + m.es.length ≤ 9000000000000) (_ : p.voices.length * 16 ≤ 140737488352900) (_ : p.next.length * 16 ≤ 140737488352900) (_ : p.mat.length * 16 ≤ 140737488352900) (K : Nat) (w : World) (hK : K ≤ w.heap.size) (hM : NdM K w p d) (hE : Ents w m.at_ m.es) (h1 : m.dst = p.id) (h2 : ¬ m.fr = p.id) (h3 : ¬ (1 ≤ m.fr ∧ m.fr ≤ 63)) :
 Calls Tryz.prog 19 #[ndV p d, mgV m] w (NmP K w (hearP p m)) := by
 obtain ⟨W, hW, B0, N0, Z0⟩ := nk_new w p d
 obtain ⟨Wm, ym, hWm, hym, Bm, HG, Zm⟩ := bk_new W (mgA m) 59
 obtain ⟨W1, y, hW1, hy, B1, HR, Z1⟩ := bk_new Wm znA 34
 have Bm' : Below W.heap.size W Wm := hym ▸ Bm
 have B1' : Below Wm.heap.size Wm W1 := hy ▸ B1
 have HB1 := B0.trans (Bm'.mono B0.size)
 have HN := (N0.later Bm').later B1'
 replace HG := HG.later B1'
 have HB := HB1.trans (B1'.mono HB1.size)
 have hyn := hI_ (show w.heap.size < y ∧ w.heap.size < ym ∧ ym < y by have := Z0.out; have := Zm.out; omega)
 clear B0 N0 B1 Bm Bm' B1' HB1
 unfold ndA at hW
 unfold mgA at hWm
 unfold znA at hW1
 have HM := hM.later HB
 have HKK := hI_ hK
 have HEE := hI_ (show ∀ w1, Below w.heap.size w w1 → Ents w1 m.at_ m.es from fun w1 hb => hE.later hb)
 have c0 := HN.bx.c 0 _ rfl
 have e1 := HG.bx.c 1 _ rfl
 have e3 := HG.bx.c 3 _ rfl
 clear hM hE
 have HQ := hI_ (show hearP p m = (p, []) by unfold hearP; rw [if_pos (.inr (.inr (.inl h3)))])
 have g1 : (((m.dst : Nat) : Int) == ((p.id : Nat) : Int)) = true := by first | (simp; done) | (simp; omega)
 have g1' : (((m.dst : Nat) : Int) != ((p.id : Nat) : Int)) = false := by first | (simp; done) | (simp; omega)
 have g2 : (((m.fr : Nat) : Int) == ((p.id : Nat) : Int)) = false := by first | (simp; done) | (simp; omega)
 have g2' : (((m.fr : Nat) : Int) != ((p.id : Nat) : Int)) = true := by first | (simp; done) | (simp; omega)
 clear h1
 go_enter Tryz.func19, Tryz.ntmps19
 go_wp2_with (first
  | (refine lCc rfl _ rfl rfl (ocA rfl) (by assumption) rfl ?_))
 refine (pMayIdR_any m.fr _).mono ?_
 rintro e w2 ⟨rfl, rfl⟩
 rw [show decide (1 ≤ m.fr ∧ m.fr ≤ 63) = false by simp; omega]
 go_wp2_with (first
  | (refine lBk rfl _ rfl rfl nodeT HN rfl ?_)
  | (refine sBk rfl _ _ rfl rfl rfl nodeT HR rfl rfl rfl ?_; intro w' hk hg; replace HN := HN.grown hg (by have := hyn.out; omega); replace HG := HG.grown hg (by have := hyn.out; omega); replace HM := HM.grown hg (by have := hyn.out; omega) HR.bx.ty bNd; replace HB := bGr HB hg HB.size (by have := hyn.out; omega); replace HR := hk; clear hk hg))
 refine bodyPost_ret (v := .tuple #[ndV p d, .slice none 0 0]) (by rw [rBt Tryz.results19 _ rfl nodeT HR rfl]; rfl) rfl ?_
 rw [HQ.out]
 exact ⟨d, _, [], rfl, HM, CqG.nil _ _ none, rfl, HB⟩
theorem pHear_r4 (p : Pn) (d : Ad) (_ : Bd p) (m : Mg) (_ : Bm m) (_ : p.g.L.length + m.es.length ≤ 9000000000000) (_ : p.voices.length * 16 ≤ 140737488352900) (_ : p.next.length * 16 ≤ 140737488352900) (_ : p.mat.length * 16 ≤ 140737488352900) (K : Nat) (w : World) (hK : K ≤ w.heap.size) (hM : NdM K w p d) (hE : Ents w m.at_ m.es) (h1 : m.dst = p.id) (h2 : ¬ m.fr = p.id) (h3 : 1 ≤ m.fr ∧ m.fr ≤ 63) (h4 : 4611686018427387903 < m.term) :
 Calls Tryz.prog 19 #[ndV p d, mgV m] w (NmP K w (hearP p m)) := by
 obtain ⟨W, hW, B0, N0, Z0⟩ := nk_new w p d
 obtain ⟨Wm, ym, hWm, hym, Bm, HG, Zm⟩ := bk_new W (mgA m) 59
 obtain ⟨W1, y, hW1, hy, B1, HR, Z1⟩ := bk_new Wm znA 34
 have Bm' : Below W.heap.size W Wm := hym ▸ Bm
 have B1' : Below Wm.heap.size Wm W1 := hy ▸ B1
 have HB1 := B0.trans (Bm'.mono B0.size)
 have HN := (N0.later Bm').later B1'
 replace HG := HG.later B1'
 have HB := HB1.trans (B1'.mono HB1.size)
 have hyn := hI_ (show w.heap.size < y ∧ w.heap.size < ym ∧ ym < y by have := Z0.out; have := Zm.out; omega)
 clear B0 N0 B1 Bm Bm' B1' HB1
 unfold ndA at hW
 unfold mgA at hWm
 unfold znA at hW1
 have HM := hM.later HB
 have HKK := hI_ hK
 have HEE := hI_ (show ∀ w1, Below w.heap.size w w1 → Ents w1 m.at_ m.es from fun w1 hb => hE.later hb)
 have c0 := HN.bx.c 0 _ rfl
 have e1 := HG.bx.c 1 _ rfl
 have e3 := HG.bx.c 3 _ rfl
 clear hM hE
 have HQ := hI_ (show hearP p m = (p, []) by unfold hearP; rw [if_pos (.inr (.inr (.inr h4)))])
 have g1 : (((m.dst : Nat) : Int) == ((p.id : Nat) : Int)) = true := by first | (simp; done) | (simp; omega)
 have g1' : (((m.dst : Nat) : Int) != ((p.id : Nat) : Int)) = false := by first | (simp; done) | (simp; omega)
 have g2 : (((m.fr : Nat) : Int) == ((p.id : Nat) : Int)) = false := by first | (simp; done) | (simp; omega)
 have g2' : (((m.fr : Nat) : Int) != ((p.id : Nat) : Int)) = true := by first | (simp; done) | (simp; omega)
 have g4 : decide ((4611686018427387903 : Int) < (m.term : Int)) = true := by simp; omega
 clear h1
 go_enter Tryz.func19, Tryz.ntmps19
 go_wp2_with (first
  | (refine lCc rfl _ rfl rfl (ocA rfl) (by assumption) rfl ?_))
 refine (pMayIdR_any m.fr _).mono ?_
 rintro e w2 ⟨rfl, rfl⟩
 rw [show decide (1 ≤ m.fr ∧ m.fr ≤ 63) = true by simp; omega]
 go_wp2_with (first
  | (refine lBk rfl _ rfl rfl nodeT HN rfl ?_)
  | (refine sBk rfl _ _ rfl rfl rfl nodeT HR rfl rfl rfl ?_; intro w' hk hg; replace HN := HN.grown hg (by have := hyn.out; omega); replace HG := HG.grown hg (by have := hyn.out; omega); replace HM := HM.grown hg (by have := hyn.out; omega) HR.bx.ty bNd; replace HB := bGr HB hg HB.size (by have := hyn.out; omega); replace HR := hk; clear hk hg))
 refine bodyPost_ret (v := .tuple #[ndV p d, .slice none 0 0]) (by rw [rBt Tryz.results19 _ rfl nodeT HR rfl]; rfl) rfl ?_
 rw [HQ.out]
 exact ⟨d, _, [], rfl, HM, CqG.nil _ _ none, rfl, HB⟩
end Go.Proofs.YtdcpiaoadbbdoaaGreatDoor
