/- An act is done: a change of the group. -/
import Derived.Test.YtdcpiaoadbbdoaaGreatDoorRtake
import Derived.Test.YtdcpiaoadbbdoaaGreatDoorQdo4
import Derived.Test.YtdcpiaoadbbdoaaGreatDoorQof
import Derived.Test.YtdcpiaoadbbdoaaGreatDoorQcp
import Derived.Test.YtdcpiaoadbbdoaaGreatDoorQz
import Derived.Test.YtdcpiaoadbbdoaaGreatDoorQcf
set_option maxRecDepth 100000
set_option maxHeartbeats 16000000
namespace Go.Proofs.YtdcpiaoadbbdoaaGreatDoor
open Go.RowKit

theorem pDoes_4a (p : Pn) (d : Ad) (hI : Iv p) (_ : p.heard ≤ 10) (a : Ac) (_ : a.n < 18446744073709551616) (_ : Bm a.m) (_ : a.s.size ≤ 140737488351232) (hxi : a.xi < 18446744073709551616) (_ : a.m.es.length ≤ 8000000000000) (K : Nat) (w : World) (hK : K ≤ w.heap.size) (hT : Tz w) (hM : NdM K w p d) (hE : Ents w a.m.at_ a.m.es) (hk : a.k = 4) (h0 : chgX p a.xk a.xi = 0) :
 Calls Tryz.prog 17 #[ndV p d, .agg #[.int .i64 a.k, .int .u64 a.n, .int .i64 a.m.kind, .int .u64 a.m.fr, .int .u64 a.m.dst, .int .u64 a.m.term, .int .u64 a.m.i, .int .u64 a.m.lt, .int .u64 a.m.commit, .bool a.m.ok, .slice a.m.at_ a.m.es.length a.m.cap, .string a.m.snap, .string a.s, .int .i64 a.xk, .int .u64 a.xi]] w (NvP K w (doesP p a)) := by
 obtain ⟨W, hW, B0, N0, Z0⟩ := nk_new w p d
 obtain ⟨Wm, xa, hWm, hxa, Bm', HG, Zm⟩ := bk_new W #[.int .i64 a.k, .int .u64 a.n, .int .i64 a.m.kind, .int .u64 a.m.fr, .int .u64 a.m.dst, .int .u64 a.m.term, .int .u64 a.m.i, .int .u64 a.m.lt, .int .u64 a.m.commit, .bool a.m.ok, .slice a.m.at_ a.m.es.length a.m.cap, .string a.m.snap, .string a.s, .int .i64 a.xk, .int .u64 a.xi] 61
 obtain ⟨W1, y, hW1, hy, B1, HR, Z1⟩ := bk_new Wm znA 34
 have Bm2 : Below W.heap.size W Wm := hxa ▸ Bm'
 have B1' : Below Wm.heap.size Wm W1 := hy ▸ B1
 have HB1 := B0.trans (Bm2.mono B0.size)
 have HN := (N0.later Bm2).later B1'
 replace HG := HG.later B1'
 have HB := HB1.trans (B1'.mono HB1.size)
 have hyn := hI_ (show w.heap.size < y ∧ w.heap.size < xa ∧ xa < y by have := Z0.out; have := Zm.out; omega)
 clear B0 N0 B1 Bm' Bm2 B1' HB1
 unfold ndA at hW
 unfold znA at hW1
 have HM := hM.later HB
 have HTZ := hI_ (show ∀ w1, Below w.heap.size w w1 → Tz w1 from fun w1 h => hT.below (h.mono hT.n))
 have HEE := hI_ (show ∀ w1, Below w.heap.size w w1 → Ents w1 a.m.at_ a.m.es from fun w1 h => hE.later h)
 have hvl := hI.vlen
 have hnl := hI.nlen
 have hml := hI.mlen
 have hbd := hI.bd
 have hgl := hI.g.len
 clear hM hE
 have gk1 : (a.k == 1) = false := by rw [hk]; rfl
 have gk2 : (a.k == 2) = false := by rw [hk]; rfl
 have gk3 : (a.k == 3) = false := by rw [hk]; rfl
 have gk4 : (a.k == 4) = true := by rw [hk]; rfl
 obtain ⟨P3, M3, h3⟩ : ∃ P3 M3, chgP p a.xk a.xi = (P3, M3) := ⟨_, _, rfl⟩
 have HQ := hI_ (show doesP p a = P3 by unfold doesP; rw [if_neg (by omega), if_neg (by omega), if_neg (by omega), if_pos hk, if_pos h0, h3])
 have HCA := hI_ (show ∀ w1, K ≤ w1.heap.size → NdM K w1 p d → Below w.heap.size w w1 → Calls Tryz.prog 10 #[ndV p d, .agg #[.int .i64 a.xk, .int .u64 a.xi]] w1 (OcP K w1 0 (P3, M3)) from fun w1 h1 h2 hbw => by
  have h := pChange_any p d hbd (by omega) (by omega) a.xk a.xi hxi K w1 h1 (HTZ.out w1 hbw) h2
  rw [h3, h0] at h; exact h)
 clear h3 hk h0
 go_enter Tryz.func17, Tryz.ntmps17
 go_wp2_with (first
  | (refine lCc rfl _ rfl rfl (ocA rfl) (by assumption) rfl ?_)
  | (refine lBk rfl _ rfl rfl nodeT HN rfl ?_)
  | (refine lSb rfl _ rfl rfl [.int .i64 a.xk, .int .u64 a.xi] chgT HG rfl rfl ?_))
 refine (HCA.out _ (Nat.le_trans hK HB.size) HM HB).mono ?_
 rintro e w2 ho
 unfold OcP at ho
 rw [if_pos rfl] at ho
 obtain ⟨D3, v, O, rfl, hm3, _, _, hb⟩ := ho
 replace HB := HB.trans (hb.mono HB.size)
 replace HR := HR.later hb
 replace HN := HN.later hb
 replace HG := HG.later hb
 replace HM := hm3
 clear hb hm3
 simp only at HM
 obtain ⟨w5, y5, hw5, hy5, B5, H5, Z5⟩ := bk_new w2 znA 34
 have B5' : Below w2.heap.size w2 w5 := hy5 ▸ B5
 have hy5n := hI_ (show w.heap.size < y5 ∧ xa < y5 ∧ y < y5 ∧ K ≤ y5 by have h1 := HN.lt; have h2 := HG.lt; have h3 := HR.lt; have := hyn.out; omega)
 replace HB := HB.trans (B5'.mono HB.size)
 replace HR := HR.later B5'
 replace HN := HN.later B5'
 replace HM := HM.later B5'
 unfold znA at hw5
 clear B5 B5'
 go_wp2_with (first
  | (refine sBk rfl _ _ rfl rfl (M := ndL P3 D3) rfl nodeT H5 rfl rfl rfl ?_; intro w' hk5 hg; replace HR := HR.grown hg (by have := hy5n.out; omega); replace HN := HN.grown hg (by have := hy5n.out; omega); replace HM := HM.grown hg (by have := hy5n.out; omega) H5.bx.ty bNd; replace HB := bGr HB hg HB.size (by have := hy5n.out; omega); replace H5 := hk5; clear hk5 hg)
  | (refine lBk rfl _ rfl rfl nodeT H5 rfl ?_)
  | (refine sBk rfl _ _ rfl rfl (M := ndL P3 D3) rfl nodeT HR rfl rfl rfl ?_; intro w' hk5 hg; replace HM := HM.grown hg (by have := hyn.out; omega) HR.bx.ty bNd; replace HB := bGr HB hg HB.size (by have := hyn.out; omega); replace HR := hk5; clear hk5 hg))
 refine bodyPost_ret (v := ndV P3 D3) (by rw [results_bk Tryz.results17 _ rfl nodeT HR rfl]) rfl ?_
 rw [HQ.out]
 exact ⟨D3, rfl, HM, HB⟩
theorem pDoes_4b (p : Pn) (d : Ad) (hI : Iv p) (_ : p.heard ≤ 10) (a : Ac) (_ : a.n < 18446744073709551616) (_ : Bm a.m) (_ : a.s.size ≤ 140737488351232) (hxi : a.xi < 18446744073709551616) (_ : a.m.es.length ≤ 8000000000000) (K : Nat) (w : World) (hK : K ≤ w.heap.size) (hT : Tz w) (hM : NdM K w p d) (hE : Ents w a.m.at_ a.m.es) (hk : a.k = 4) (h0 : ¬ chgX p a.xk a.xi = 0) :
 Calls Tryz.prog 17 #[ndV p d, .agg #[.int .i64 a.k, .int .u64 a.n, .int .i64 a.m.kind, .int .u64 a.m.fr, .int .u64 a.m.dst, .int .u64 a.m.term, .int .u64 a.m.i, .int .u64 a.m.lt, .int .u64 a.m.commit, .bool a.m.ok, .slice a.m.at_ a.m.es.length a.m.cap, .string a.m.snap, .string a.s, .int .i64 a.xk, .int .u64 a.xi]] w (NvP K w (doesP p a)) := by
 obtain ⟨W, hW, B0, N0, Z0⟩ := nk_new w p d
 obtain ⟨Wm, xa, hWm, hxa, Bm', HG, Zm⟩ := bk_new W #[.int .i64 a.k, .int .u64 a.n, .int .i64 a.m.kind, .int .u64 a.m.fr, .int .u64 a.m.dst, .int .u64 a.m.term, .int .u64 a.m.i, .int .u64 a.m.lt, .int .u64 a.m.commit, .bool a.m.ok, .slice a.m.at_ a.m.es.length a.m.cap, .string a.m.snap, .string a.s, .int .i64 a.xk, .int .u64 a.xi] 61
 obtain ⟨W1, y, hW1, hy, B1, HR, Z1⟩ := bk_new Wm znA 34
 have Bm2 : Below W.heap.size W Wm := hxa ▸ Bm'
 have B1' : Below Wm.heap.size Wm W1 := hy ▸ B1
 have HB1 := B0.trans (Bm2.mono B0.size)
 have HN := (N0.later Bm2).later B1'
 replace HG := HG.later B1'
 have HB := HB1.trans (B1'.mono HB1.size)
 have hyn := hI_ (show w.heap.size < y ∧ w.heap.size < xa ∧ xa < y by have := Z0.out; have := Zm.out; omega)
 clear B0 N0 B1 Bm' Bm2 B1' HB1
 unfold ndA at hW
 unfold znA at hW1
 have HM := hM.later HB
 have HTZ := hI_ (show ∀ w1, Below w.heap.size w w1 → Tz w1 from fun w1 h => hT.below (h.mono hT.n))
 have HEE := hI_ (show ∀ w1, Below w.heap.size w w1 → Ents w1 a.m.at_ a.m.es from fun w1 h => hE.later h)
 have hvl := hI.vlen
 have hnl := hI.nlen
 have hml := hI.mlen
 have hbd := hI.bd
 have hgl := hI.g.len
 clear hM hE
 have gk1 : (a.k == 1) = false := by rw [hk]; rfl
 have gk2 : (a.k == 2) = false := by rw [hk]; rfl
 have gk3 : (a.k == 3) = false := by rw [hk]; rfl
 have gk4 : (a.k == 4) = true := by rw [hk]; rfl
 have HQ := hI_ (show doesP p a = p by unfold doesP; rw [if_neg (by omega), if_neg (by omega), if_neg (by omega), if_pos hk, if_neg h0])
 obtain ⟨x, hx⟩ : ∃ x, chgX p a.xk a.xi = x := ⟨_, rfl⟩
 have HCA := hI_ (show ∀ w1, K ≤ w1.heap.size → NdM K w1 p d → Below w.heap.size w w1 → Calls Tryz.prog 10 #[ndV p d, .agg #[.int .i64 a.xk, .int .u64 a.xi]] w1 (OcP K w1 x (chgP p a.xk a.xi)) from fun w1 h1 h2 hbw => by
  have h := pChange_any p d hbd (by omega) (by omega) a.xk a.xi hxi K w1 h1 (HTZ.out w1 hbw) h2
  rw [hx] at h; exact h)
 rw [hx] at h0
 have g0 : (x == 0) = false := by simpa using h0
 have H0 := hI_ h0
 clear hx hk h0
 go_enter Tryz.func17, Tryz.ntmps17
 go_wp2_with (first
  | (refine lCc rfl _ rfl rfl (ocA rfl) (by assumption) rfl ?_)
  | (refine lBk rfl _ rfl rfl nodeT HN rfl ?_)
  | (refine lSb rfl _ rfl rfl [.int .i64 a.xk, .int .u64 a.xi] chgT HG rfl rfl ?_))
 refine (HCA.out _ (Nat.le_trans hK HB.size) HM HB).mono ?_
 rintro e w2 ho
 unfold OcP at ho
 rw [if_neg H0.out] at ho
 obtain ⟨rfl, hb⟩ := ho
 replace HB := HB.trans (hb.mono HB.size)
 replace HR := HR.later hb
 replace HN := HN.later hb
 replace HG := HG.later hb
 replace HM := HM.later hb
 clear hb
 obtain ⟨w5, y5, hw5, hy5, B5, H5, Z5⟩ := bk_new w2 znA 34
 have B5' : Below w2.heap.size w2 w5 := hy5 ▸ B5
 have hy5n := hI_ (show w.heap.size < y5 ∧ xa < y5 ∧ y < y5 ∧ K ≤ y5 by have h1 := HN.lt; have h2 := HG.lt; have h3 := HR.lt; have := hyn.out; omega)
 replace HB := HB.trans (B5'.mono HB.size)
 replace HR := HR.later B5'
 replace HN := HN.later B5'
 replace HM := HM.later B5'
 unfold znA at hw5
 clear B5 B5'
 go_wp2_with (first
  | (refine sBk rfl _ _ rfl rfl (M := znA.toList) rfl nodeT H5 rfl rfl rfl ?_; intro w' hk5 hg; replace HR := HR.grown hg (by have := hy5n.out; omega); replace HN := HN.grown hg (by have := hy5n.out; omega); replace HM := HM.grown hg (by have := hy5n.out; omega) H5.bx.ty bNd; replace HB := bGr HB hg HB.size (by have := hy5n.out; omega); replace H5 := hk5; clear hk5 hg)
  | (refine lBk rfl _ rfl rfl nodeT HN rfl ?_)
  | (refine sBk rfl _ _ rfl rfl (M := ndL p d) rfl nodeT HR rfl rfl rfl ?_; intro w' hk5 hg; replace HM := HM.grown hg (by have := hyn.out; omega) HR.bx.ty bNd; replace HB := bGr HB hg HB.size (by have := hyn.out; omega); replace HR := hk5; clear hk5 hg))
 refine bodyPost_ret (v := ndV p d) (by rw [results_bk Tryz.results17 _ rfl nodeT HR rfl]) rfl ?_
 rw [HQ.out]
 exact ⟨d, rfl, HM, HB⟩

theorem pDoes_3a (p : Pn) (d : Ad) (hI : Iv p) (_ : p.heard ≤ 10) (a : Ac) (_ : a.n < 18446744073709551616) (_ : Bm a.m) (hs : a.s.size ≤ 140737488351232) (_ : a.xi < 18446744073709551616) (_ : a.m.es.length ≤ 8000000000000) (K : Nat) (w : World) (hK : K ≤ w.heap.size) (hT : Tz w) (hM : NdM K w p d) (hE : Ents w a.m.at_ a.m.es) (hk : a.k = 3) (h0 : offX p a.s = 0) :
 Calls Tryz.prog 17 #[ndV p d, .agg #[.int .i64 a.k, .int .u64 a.n, .int .i64 a.m.kind, .int .u64 a.m.fr, .int .u64 a.m.dst, .int .u64 a.m.term, .int .u64 a.m.i, .int .u64 a.m.lt, .int .u64 a.m.commit, .bool a.m.ok, .slice a.m.at_ a.m.es.length a.m.cap, .string a.m.snap, .string a.s, .int .i64 a.xk, .int .u64 a.xi]] w (NvP K w (doesP p a)) := by
 obtain ⟨W, hW, B0, N0, Z0⟩ := nk_new w p d
 obtain ⟨Wm, xa, hWm, hxa, Bm', HG, Zm⟩ := bk_new W #[.int .i64 a.k, .int .u64 a.n, .int .i64 a.m.kind, .int .u64 a.m.fr, .int .u64 a.m.dst, .int .u64 a.m.term, .int .u64 a.m.i, .int .u64 a.m.lt, .int .u64 a.m.commit, .bool a.m.ok, .slice a.m.at_ a.m.es.length a.m.cap, .string a.m.snap, .string a.s, .int .i64 a.xk, .int .u64 a.xi] 61
 obtain ⟨W1, y, hW1, hy, B1, HR, Z1⟩ := bk_new Wm znA 34
 have Bm2 : Below W.heap.size W Wm := hxa ▸ Bm'
 have B1' : Below Wm.heap.size Wm W1 := hy ▸ B1
 have HB1 := B0.trans (Bm2.mono B0.size)
 have HN := (N0.later Bm2).later B1'
 replace HG := HG.later B1'
 have HB := HB1.trans (B1'.mono HB1.size)
 have hyn := hI_ (show w.heap.size < y ∧ w.heap.size < xa ∧ xa < y by have := Z0.out; have := Zm.out; omega)
 clear B0 N0 B1 Bm' Bm2 B1' HB1
 unfold ndA at hW
 unfold znA at hW1
 have HM := hM.later HB
 have HTZ := hI_ (show ∀ w1, Below w.heap.size w w1 → Tz w1 from fun w1 h => hT.below (h.mono hT.n))
 have HEE := hI_ (show ∀ w1, Below w.heap.size w w1 → Ents w1 a.m.at_ a.m.es from fun w1 h => hE.later h)
 have hvl := hI.vlen
 have hnl := hI.nlen
 have hml := hI.mlen
 have hbd := hI.bd
 have hgl := hI.g.len
 clear hM hE
 have gk1 : (a.k == 1) = false := by rw [hk]; rfl
 have gk2 : (a.k == 2) = false := by rw [hk]; rfl
 have gk3 : (a.k == 3) = true := by rw [hk]; rfl
 obtain ⟨P3, M3, h3⟩ : ∃ P3 M3, offP p a.s = (P3, M3) := ⟨_, _, rfl⟩
 have HQ := hI_ (show doesP p a = P3 by unfold doesP; rw [if_neg (by omega), if_neg (by omega), if_pos hk, if_pos h0, h3])
 have HCA := hI_ (show ∀ w1, K ≤ w1.heap.size → NdM K w1 p d → Below w.heap.size w w1 → Calls Tryz.prog 58 #[ndV p d, .string a.s] w1 (OcP K w1 0 (P3, M3)) from fun w1 h1 h2 hbw => by
  have h := pOffer_any p d hbd (by omega) a.s hs K w1 h1 h2
  rw [h3, h0] at h; exact h)
 clear h3 hk h0
 go_enter Tryz.func17, Tryz.ntmps17
 go_wp2_with (first
  | (refine lCc rfl _ rfl rfl (ocA rfl) (by assumption) rfl ?_)
  | (refine lBk rfl _ rfl rfl nodeT HN rfl ?_))
 refine (HCA.out _ (Nat.le_trans hK HB.size) HM HB).mono ?_
 rintro e w2 ho
 unfold OcP at ho
 rw [if_pos rfl] at ho
 obtain ⟨D3, v, O, rfl, hm3, _, _, hb⟩ := ho
 replace HB := HB.trans (hb.mono HB.size)
 replace HR := HR.later hb
 replace HN := HN.later hb
 replace HG := HG.later hb
 replace HM := hm3
 clear hb hm3
 simp only at HM
 obtain ⟨w5, y5, hw5, hy5, B5, H5, Z5⟩ := bk_new w2 znA 34
 have B5' : Below w2.heap.size w2 w5 := hy5 ▸ B5
 have hy5n := hI_ (show w.heap.size < y5 ∧ xa < y5 ∧ y < y5 ∧ K ≤ y5 by have h1 := HN.lt; have h2 := HG.lt; have h3 := HR.lt; have := hyn.out; omega)
 replace HB := HB.trans (B5'.mono HB.size)
 replace HR := HR.later B5'
 replace HN := HN.later B5'
 replace HM := HM.later B5'
 unfold znA at hw5
 clear B5 B5'
 go_wp2_with (first
  | (refine sBk rfl _ _ rfl rfl (M := ndL P3 D3) rfl nodeT H5 rfl rfl rfl ?_; intro w' hk5 hg; replace HR := HR.grown hg (by have := hy5n.out; omega); replace HN := HN.grown hg (by have := hy5n.out; omega); replace HM := HM.grown hg (by have := hy5n.out; omega) H5.bx.ty bNd; replace HB := bGr HB hg HB.size (by have := hy5n.out; omega); replace H5 := hk5; clear hk5 hg)
  | (refine lBk rfl _ rfl rfl nodeT H5 rfl ?_)
  | (refine sBk rfl _ _ rfl rfl (M := ndL P3 D3) rfl nodeT HR rfl rfl rfl ?_; intro w' hk5 hg; replace HM := HM.grown hg (by have := hyn.out; omega) HR.bx.ty bNd; replace HB := bGr HB hg HB.size (by have := hyn.out; omega); replace HR := hk5; clear hk5 hg))
 refine bodyPost_ret (v := ndV P3 D3) (by rw [results_bk Tryz.results17 _ rfl nodeT HR rfl]) rfl ?_
 rw [HQ.out]
 exact ⟨D3, rfl, HM, HB⟩
theorem pDoes_3b (p : Pn) (d : Ad) (hI : Iv p) (_ : p.heard ≤ 10) (a : Ac) (_ : a.n < 18446744073709551616) (_ : Bm a.m) (hs : a.s.size ≤ 140737488351232) (_ : a.xi < 18446744073709551616) (_ : a.m.es.length ≤ 8000000000000) (K : Nat) (w : World) (hK : K ≤ w.heap.size) (hT : Tz w) (hM : NdM K w p d) (hE : Ents w a.m.at_ a.m.es) (hk : a.k = 3) (h0 : ¬ offX p a.s = 0) :
 Calls Tryz.prog 17 #[ndV p d, .agg #[.int .i64 a.k, .int .u64 a.n, .int .i64 a.m.kind, .int .u64 a.m.fr, .int .u64 a.m.dst, .int .u64 a.m.term, .int .u64 a.m.i, .int .u64 a.m.lt, .int .u64 a.m.commit, .bool a.m.ok, .slice a.m.at_ a.m.es.length a.m.cap, .string a.m.snap, .string a.s, .int .i64 a.xk, .int .u64 a.xi]] w (NvP K w (doesP p a)) := by
 obtain ⟨W, hW, B0, N0, Z0⟩ := nk_new w p d
 obtain ⟨Wm, xa, hWm, hxa, Bm', HG, Zm⟩ := bk_new W #[.int .i64 a.k, .int .u64 a.n, .int .i64 a.m.kind, .int .u64 a.m.fr, .int .u64 a.m.dst, .int .u64 a.m.term, .int .u64 a.m.i, .int .u64 a.m.lt, .int .u64 a.m.commit, .bool a.m.ok, .slice a.m.at_ a.m.es.length a.m.cap, .string a.m.snap, .string a.s, .int .i64 a.xk, .int .u64 a.xi] 61
 obtain ⟨W1, y, hW1, hy, B1, HR, Z1⟩ := bk_new Wm znA 34
 have Bm2 : Below W.heap.size W Wm := hxa ▸ Bm'
 have B1' : Below Wm.heap.size Wm W1 := hy ▸ B1
 have HB1 := B0.trans (Bm2.mono B0.size)
 have HN := (N0.later Bm2).later B1'
 replace HG := HG.later B1'
 have HB := HB1.trans (B1'.mono HB1.size)
 have hyn := hI_ (show w.heap.size < y ∧ w.heap.size < xa ∧ xa < y by have := Z0.out; have := Zm.out; omega)
 clear B0 N0 B1 Bm' Bm2 B1' HB1
 unfold ndA at hW
 unfold znA at hW1
 have HM := hM.later HB
 have HTZ := hI_ (show ∀ w1, Below w.heap.size w w1 → Tz w1 from fun w1 h => hT.below (h.mono hT.n))
 have HEE := hI_ (show ∀ w1, Below w.heap.size w w1 → Ents w1 a.m.at_ a.m.es from fun w1 h => hE.later h)
 have hvl := hI.vlen
 have hnl := hI.nlen
 have hml := hI.mlen
 have hbd := hI.bd
 have hgl := hI.g.len
 clear hM hE
 have gk1 : (a.k == 1) = false := by rw [hk]; rfl
 have gk2 : (a.k == 2) = false := by rw [hk]; rfl
 have gk3 : (a.k == 3) = true := by rw [hk]; rfl
 have HQ := hI_ (show doesP p a = p by unfold doesP; rw [if_neg (by omega), if_neg (by omega), if_pos hk, if_neg h0])
 obtain ⟨x, hx⟩ : ∃ x, offX p a.s = x := ⟨_, rfl⟩
 have HCA := hI_ (show ∀ w1, K ≤ w1.heap.size → NdM K w1 p d → Below w.heap.size w w1 → Calls Tryz.prog 58 #[ndV p d, .string a.s] w1 (OcP K w1 x (offP p a.s)) from fun w1 h1 h2 hbw => by
  have h := pOffer_any p d hbd (by omega) a.s hs K w1 h1 h2
  rw [hx] at h; exact h)
 rw [hx] at h0
 have g0 : (x == 0) = false := by simpa using h0
 have H0 := hI_ h0
 clear hx hk h0
 go_enter Tryz.func17, Tryz.ntmps17
 go_wp2_with (first
  | (refine lCc rfl _ rfl rfl (ocA rfl) (by assumption) rfl ?_)
  | (refine lBk rfl _ rfl rfl nodeT HN rfl ?_))
 refine (HCA.out _ (Nat.le_trans hK HB.size) HM HB).mono ?_
 rintro e w2 ho
 unfold OcP at ho
 rw [if_neg H0.out] at ho
 obtain ⟨rfl, hb⟩ := ho
 replace HB := HB.trans (hb.mono HB.size)
 replace HR := HR.later hb
 replace HN := HN.later hb
 replace HG := HG.later hb
 replace HM := HM.later hb
 clear hb
 obtain ⟨w5, y5, hw5, hy5, B5, H5, Z5⟩ := bk_new w2 znA 34
 have B5' : Below w2.heap.size w2 w5 := hy5 ▸ B5
 have hy5n := hI_ (show w.heap.size < y5 ∧ xa < y5 ∧ y < y5 ∧ K ≤ y5 by have h1 := HN.lt; have h2 := HG.lt; have h3 := HR.lt; have := hyn.out; omega)
 replace HB := HB.trans (B5'.mono HB.size)
 replace HR := HR.later B5'
 replace HN := HN.later B5'
 replace HM := HM.later B5'
 unfold znA at hw5
 clear B5 B5'
 go_wp2_with (first
  | (refine sBk rfl _ _ rfl rfl (M := znA.toList) rfl nodeT H5 rfl rfl rfl ?_; intro w' hk5 hg; replace HR := HR.grown hg (by have := hy5n.out; omega); replace HN := HN.grown hg (by have := hy5n.out; omega); replace HM := HM.grown hg (by have := hy5n.out; omega) H5.bx.ty bNd; replace HB := bGr HB hg HB.size (by have := hy5n.out; omega); replace H5 := hk5; clear hk5 hg)
  | (refine lBk rfl _ rfl rfl nodeT HN rfl ?_)
  | (refine sBk rfl _ _ rfl rfl (M := ndL p d) rfl nodeT HR rfl rfl rfl ?_; intro w' hk5 hg; replace HM := HM.grown hg (by have := hyn.out; omega) HR.bx.ty bNd; replace HB := bGr HB hg HB.size (by have := hyn.out; omega); replace HR := hk5; clear hk5 hg))
 refine bodyPost_ret (v := ndV p d) (by rw [results_bk Tryz.results17 _ rfl nodeT HR rfl]) rfl ?_
 rw [HQ.out]
 exact ⟨d, rfl, HM, HB⟩
end Go.Proofs.YtdcpiaoadbbdoaaGreatDoor
/- Arguments of stage 8: readings of nested structs and lists. -/
set_option maxRecDepth 100000
set_option maxHeartbeats 16000000
namespace Go.Proofs.YtdcpiaoadbbdoaaGreatDoor
open Go.ChangeShapes Go.WideShapes Go.ChangeAt Go.RowKit Go.Deep Go.Joins

def Sm {H : Type} (T : TypeId) (d : DataW H) : Prop := ∀ q ∈ d.weights Tryz.prog T, q ≤ 140737488351232
section
variable {H : Type} {enc : TypeId × Value → H} {W : World} {fuel : Nat} {cs : List Value} {y : DataW H × List MemPlace}
theorem open_st {t : TypeId} {fs : Array Field} (ht : Tryz.prog.underlying t = some (.struct fs)) (h : DataW.trod enc Tryz.prog W 0 (fun _ => true) true fuel t cs = some y) (hlt : ∀ q ∈ y.2, q.block < W.heap.size) :
 ∃ n, ∀ (i : Nat) (f : Field), fs[i]? = some f → ∃ z, DataW.trod enc Tryz.prog W 0 (fun _ => true) true n f.type ((cs.drop f.offset).take (Tryz.prog.cellsOf f.type)) = some z ∧ (∀ q ∈ z.2, q.block < W.heap.size) ∧ (Sm t y.1 → Sm f.type z.1) ∧ Rows.uptoBulk z.1 ≤ Rows.uptoBulk y.1 := by
 obtain ⟨xs, n, _, rfl, _, hlen, hf⟩ := DataW.trod_struct ht h
 refine ⟨n, fun i f hi => ?_⟩
 have hl := (Array.getElem?_eq_some_iff.1 hi).1
 have hz : xs[i]? = some (xs[i]'(by omega)) := List.getElem?_eq_getElem _
 refine ⟨_, (hf i f hi).trans hz, fun q hq => hlt q (List.mem_flatMap.2 ⟨_, List.getElem_mem _, hq⟩), fun hs q hq => hs q ?_, ?_⟩
 · simp only [DataW.weights, ht]
   exact DataW.weights_mem_each (j := i) (by rw [List.getElem?_map, Array.getElem?_toList, hi]; rfl) (by rw [List.getElem?_map, hz]; rfl) q hq
 · have hm : (xs[i]'(by omega)).1 ∈ xs.map (·.1) := List.mem_map_of_mem (List.getElem_mem _)
   have hb : ∀ (l : List (DataW H)) (d : DataW H), d ∈ l → Rows.uptoBulk d ≤ Rows.uptoBulkAll l := by
    intro l
    induction l with
    | nil => intro d hd; cases hd
    | cons x r ih =>
     intro d hd
     rcases List.mem_cons.1 hd with rfl | hd
     · simp only [Rows.uptoBulkAll]; omega
     · have := ih d hd; simp only [Rows.uptoBulkAll]; omega
   have := hb _ _ hm
   simp only [Rows.uptoBulk]; omega
theorem cU64 : Tryz.prog.cellsOf 22 = 1 := by kernel_rfl
theorem cInt : Tryz.prog.cellsOf 3 = 1 := by kernel_rfl
theorem cBool : Tryz.prog.cellsOf 4 = 1 := by kernel_rfl
theorem cStr : Tryz.prog.cellsOf 9 = 1 := by kernel_rfl
theorem cUs : Tryz.prog.cellsOf 23 = 1 := by kernel_rfl
theorem cEs : Tryz.prog.cellsOf 26 = 1 := by kernel_rfl
theorem cEn : Tryz.prog.cellsOf 65 = 2 := by kernel_rfl
theorem cCf : Tryz.prog.cellsOf 25 = 2 := by kernel_rfl
theorem cLg : Tryz.prog.cellsOf 28 = 4 := by kernel_rfl
theorem cStb : Tryz.prog.cellsOf 30 = 6 := by kernel_rfl
theorem cMsg : Tryz.prog.cellsOf 59 = 10 := by kernel_rfl
theorem bU64 : Tryz.prog.bytesOf 22 = 8 := by kernel_rfl
theorem bEn : Tryz.prog.bytesOf 65 = 24 := by kernel_rfl
theorem rdU64 (h : DataW.trod enc Tryz.prog W 0 (fun _ => true) true fuel 22 cs = some y) : ∃ x : Nat, cs = [.int .u64 (x : Nat)] ∧ x < 18446744073709551616 := by
 obtain ⟨z, e, _, w⟩ := DataW.trod_int Tryz.underlying22 h
 obtain ⟨n, rfl, b⟩ := u64_nat w
 exact ⟨n, e, b⟩
theorem rdInt (h : DataW.trod enc Tryz.prog W 0 (fun _ => true) true fuel 3 cs = some y) : ∃ x : Int, cs = [.int .i64 x] ∧ -9223372036854775808 ≤ x ∧ x ≤ 9223372036854775807 := by
 obtain ⟨z, e, _, w⟩ := DataW.trod_int Tryz.underlying3 h
 exact ⟨z, e, bounds_i64 w⟩
theorem rdBool (h : DataW.trod enc Tryz.prog W 0 (fun _ => true) true fuel 4 cs = some y) : ∃ x : Bool, cs = [.bool x] := by
 obtain ⟨z, e, _⟩ := DataW.trod_bool Tryz.underlying4 h
 exact ⟨z, e⟩
theorem rdStr (h : DataW.trod enc Tryz.prog W 0 (fun _ => true) true fuel 9 cs = some y) : ∃ s : ByteArray, cs = [.string s] ∧ (Sm 9 y.1 → s.size ≤ 140737488351232) ∧ s.size ≤ Rows.uptoBulk y.1 := by
 obtain ⟨s, e, hy, _⟩ := DataW.trod_string Tryz.underlying9 h
 refine ⟨s, e, fun hs => ?_, ?_⟩
 · have := hs s.data.toList.length (by rw [hy]; simp only [DataW.weights]; exact List.mem_singleton.2 rfl)
   rw [Array.length_toList] at this; exact this
 · rw [hy]; simp only [Rows.uptoBulk, Array.length_toList]
   show s.data.size ≤ _
   omega
theorem rowOf_sm {α : Type} {T E : TypeId} {a : Option Addr} {n c k : Nat} {L : List α} {P : List Value → α → DataW H → Prop} {d : DataW H} (hr : RowOf W k P E a n c L (fun q => q ∈ d.weights Tryz.prog T)) (hs : Sm T d) {bs : Nat} (hb : Tryz.prog.bytesOf E = bs) : n * bs ≤ 140737488351232 := hr.small hb hs
theorem rowOf_all {α : Type} {T E : TypeId} {a : Option Addr} {n c k : Nat} {L : List α} {P : List Value → α → DataW H → Prop} {d : DataW H} {Q : α → Prop} (hr : RowOf W k P E a n c L (fun q => q ∈ d.weights Tryz.prog T)) (hs : Sm T d) (hQ : ∀ cs x e, P cs x e → Sm E e → Q x) : ∀ x ∈ L, Q x := fun x hx => by
 obtain ⟨j, hj⟩ := List.mem_iff_getElem?.1 hx
 obtain ⟨b, off, cs, e, _, _, _, _, hp, hw⟩ := hr.mem j x hj
 exact hQ _ _ _ hp (fun q hq => hs q (hw q hq))
theorem slice_bulk' {T E : TypeId} (hT : Tryz.prog.underlying T = some (.slice E)) {a : Option Addr} {n c : Nat} (hf : DataW.trod enc Tryz.prog W 0 (fun _ => true) true fuel T [.slice a n c] = some y) : n ≤ Rows.uptoBulk y.1 := by
 have hbl : ∀ l : List (DataW H), l.length ≤ Rows.uptoBulkAll l := by
  intro l
  induction l with
  | nil => simp [Rows.uptoBulkAll]
  | cons x r ih =>
   have : 1 ≤ Rows.uptoBulk x := by
    cases x with
    | lit l => cases l <;> simp [Rows.uptoBulk]
    | _ => simp [Rows.uptoBulk]
   simp only [Rows.uptoBulkAll, List.length_cons]; omega
 rcases open_slice hT hf with ⟨hcs, hx⟩ | ⟨a', len, cap', m, n', D, Pl, hcs, _, hl, hm, hmm, hx, hi⟩
 · simp at hcs; omega
 · simp at hcs
   obtain ⟨_, rfl, _⟩ := hcs
   rw [hx]
   simp only [Rows.uptoBulk]
   have := hbl ((List.range n).map D)
   simp only [List.length_map, List.length_range] at this
   omega
theorem rdUs {c0 : Value} (h : DataW.trod enc Tryz.prog W 0 (fun _ => true) true fuel 23 [c0] = some y) (hlt : ∀ q ∈ y.2, q.block < W.heap.size) :
 ∃ (s : Sa) (L : List Nat), c0 = .slice s.a L.length s.c ∧ Us W s.a L ∧ (∀ x ∈ L, x < 18446744073709551616) ∧ (Sm 23 y.1 → L.length * 8 ≤ 140737488351232) ∧ L.length ≤ Rows.uptoBulk y.1 := by
 obtain ⟨a, n, c, L, rfl, hr⟩ := rowOf_of (0 : Nat) (fun cs x _ => cs = [Value.int .u64 (x : Nat)] ∧ x < 18446744073709551616) Tryz.underlying23 cU64 (by decide) (fun f cs z hsz ht _ => rdU64 ht) h hlt
 have hb := slice_bulk' Tryz.underlying23 h
 have hn := hr.hlen
 subst hn
 refine ⟨⟨a, c⟩, L, rfl, fun j x hx => ?_, hr.all fun _ _ _ h => h.2, fun hs => rowOf_sm hr hs bU64, hb⟩
 obtain ⟨b, off, e, hb, hc⟩ := hr.rw (f := fun x => [Value.int .u64 (x : Nat)]) (fun _ _ _ h => h.1) j x hx
 exact ⟨b, off, e, hb, by simpa using hc 0 _ rfl⟩
theorem rdEn (hsz : cs.length = 2) (h : DataW.trod enc Tryz.prog W 0 (fun _ => true) true fuel 65 cs = some y) (hlt : ∀ q ∈ y.2, q.block < W.heap.size) :
 ∃ x : En, cs = [.int .u64 (x.t : Nat), .string x.d] ∧ x.t < 18446744073709551616 ∧ (Sm 65 y.1 → x.d.size ≤ 140737488351232) ∧ x.d.size ≤ Rows.uptoBulk y.1 := by
 obtain ⟨n, hf⟩ := open_st Tryz.underlying65 h hlt
 obtain ⟨z0, h0, _, _⟩ := hf 0 _ rfl
 obtain ⟨z1, h1, l1, s1, k1⟩ := hf 1 _ rfl
 match cs, hsz with
 | [c0, c1], _ =>
  simp only [List.getElem_toArray, List.getElem_cons_zero, cU64] at h0
  simp only [List.getElem_toArray, List.getElem_cons_zero, List.getElem_cons_succ, cStr] at h1
  obtain ⟨t, e0, b0⟩ := rdU64 (cs := [c0]) (by simpa using h0)
  obtain ⟨s, e1, b1, g1⟩ := rdStr (cs := [c1]) (by simpa using h1)
  simp at e0 e1
  subst e0 e1
  exact ⟨⟨t, s⟩, rfl, b0, fun hs => b1 (s1 hs), by show s.size ≤ _; omega⟩
theorem rdEs {c0 : Value} (h : DataW.trod enc Tryz.prog W 0 (fun _ => true) true fuel 26 [c0] = some y) (hlt : ∀ q ∈ y.2, q.block < W.heap.size) :
 ∃ (s : Sa) (L : List En), c0 = .slice s.a L.length s.c ∧ L.length ≤ s.c ∧ s.c ≤ maxLen ∧ Ents W s.a L ∧ (Sm 26 y.1 → L.length * 24 ≤ 140737488351232 ∧ ∀ x ∈ L, x.t < 18446744073709551616 ∧ x.d.size ≤ 140737488351232) ∧ L.length ≤ Rows.uptoBulk y.1 := by
 obtain ⟨a, n, c, L, rfl, hr⟩ := rowOf_of (⟨0, ⟨#[]⟩⟩ : En) (fun cs x d => cs = [Value.int .u64 (x.t : Nat), .string x.d] ∧ x.t < 18446744073709551616 ∧ (Sm 65 d → x.d.size ≤ 140737488351232)) Tryz.underlying26 cEn (by decide) (fun f cs z hsz ht hl => by
  obtain ⟨x, e, b, g, _⟩ := rdEn hsz ht hl
  exact ⟨x, e, b, g⟩) h hlt
 have hb := slice_bulk' Tryz.underlying26 h
 have hn := hr.hlen
 subst hn
 refine ⟨⟨a, c⟩, L, rfl, hr.hcap, hr.hmax, fun j x hx => ?_, fun hs => ⟨rowOf_sm hr hs bEn, rowOf_all hr hs fun _ _ _ h hs => ⟨h.2.1, h.2.2 hs⟩⟩, hb⟩
 obtain ⟨b, off, e, hb, hc⟩ := hr.rw (f := fun x => [Value.int .u64 (x.t : Nat), .string x.d]) (fun _ _ _ h => h.1) j x hx
 exact ⟨b, off, e, hb, by simpa using hc 0 _ rfl, by simpa using hc 1 _ rfl⟩
structure RdCf (W : World) (cs : List Value) (c : Cf) (s1 s2 : Sa) (ok : Prop) (bk : Nat) : Prop where
 cells : cs = [.slice s1.a c.V.length s1.c, .slice s2.a c.L.length s2.c]
 V : Us W s1.a c.V
 L : Us W s2.a c.L
 sz : ok → c.V.length * 8 ≤ 140737488351232 ∧ c.L.length * 8 ≤ 140737488351232
 bulk : c.V.length ≤ bk ∧ c.L.length ≤ bk
theorem rdCf (hsz : cs.length = 2) (h : DataW.trod enc Tryz.prog W 0 (fun _ => true) true fuel 25 cs = some y) (hlt : ∀ q ∈ y.2, q.block < W.heap.size) : ∃ c s1 s2, RdCf W cs c s1 s2 (Sm 25 y.1) (Rows.uptoBulk y.1) := by
 obtain ⟨n, hf⟩ := open_st Tryz.underlying25 h hlt
 obtain ⟨z0, h0, l0, w0, k0⟩ := hf 0 _ rfl
 obtain ⟨z1, h1, l1, w1, k1⟩ := hf 1 _ rfl
 match cs, hsz with
 | [c0, c1], _ =>
  simp only [List.getElem_toArray, List.getElem_cons_zero, List.getElem_cons_succ, cUs] at h0 h1
  obtain ⟨s1, V, rfl, m1, _, g1, b1⟩ := rdUs (c0 := c0) (by simpa using h0) l0
  obtain ⟨s2, L, rfl, m2, _, g2, b2⟩ := rdUs (c0 := c1) (by simpa using h1) l1
  exact ⟨⟨V, L⟩, s1, s2, ⟨rfl, m1, m2, fun hs => ⟨g1 (w0 hs), g2 (w1 hs)⟩, by show V.length ≤ _; omega, by show L.length ≤ _; omega⟩⟩
structure RdLg (W : World) (cs : List Value) (g : Lg) (s : Sa) (ok : Prop) (bk : Nat) : Prop where
 cells : cs = [.int .u64 g.base, .int .u64 g.bt, .string g.snap, .slice s.a g.L.length s.c]
 base : g.base < 18446744073709551616
 bt : g.bt < 18446744073709551616
 ec : g.L.length ≤ s.c
 em : s.c ≤ maxLen
 E : Ents W s.a g.L
 sz : ok → g.snap.size ≤ 140737488351232 ∧ g.L.length * 24 ≤ 140737488351232 ∧ ∀ x ∈ g.L, x.t < 18446744073709551616 ∧ x.d.size ≤ 140737488351232
 bulk : g.L.length ≤ bk ∧ g.snap.size ≤ bk
theorem rdLg (hsz : cs.length = 4) (h : DataW.trod enc Tryz.prog W 0 (fun _ => true) true fuel 28 cs = some y) (hlt : ∀ q ∈ y.2, q.block < W.heap.size) : ∃ g s, RdLg W cs g s (Sm 28 y.1) (Rows.uptoBulk y.1) := by
 obtain ⟨n, hf⟩ := open_st Tryz.underlying28 h hlt
 obtain ⟨z0, h0, l0, w0, k0⟩ := hf 0 _ rfl
 obtain ⟨z1, h1, l1, w1, k1⟩ := hf 1 _ rfl
 obtain ⟨z2, h2, l2, w2, k2⟩ := hf 2 _ rfl
 obtain ⟨z3, h3, l3, w3, k3⟩ := hf 3 _ rfl
 match cs, hsz with
 | [c0, c1, c2, c3], _ =>
  simp only [List.getElem_toArray, List.getElem_cons_zero, List.getElem_cons_succ, cU64, cStr, cEs] at h0 h1 h2 h3
  obtain ⟨x0, e0, b0⟩ := rdU64 (cs := [c0]) (by simpa using h0)
  obtain ⟨x1, e1, b1⟩ := rdU64 (cs := [c1]) (by simpa using h1)
  obtain ⟨x2, e2, b2, g2⟩ := rdStr (cs := [c2]) (by simpa using h2)
  obtain ⟨s, L, rfl, q1, q2, m, g3, b3⟩ := rdEs (c0 := c3) (by simpa using h3) l3
  simp only [List.cons.injEq, and_true] at e0 e1 e2
  subst e0 e1 e2
  exact ⟨⟨x0, x1, x2, L⟩, s, ⟨rfl, b0, b1, q1, q2, m, fun hs => ⟨b2 (w2 hs), (g3 (w3 hs)).1, (g3 (w3 hs)).2⟩, by show L.length ≤ _; omega, by show x2.size ≤ _; omega⟩⟩
structure RdSt (W : World) (cs : List Value) (t v : Nat) (g : Lg) (s : Sa) (ok : Prop) (bk : Nat) : Prop where
 cells : cs = [.int .u64 t, .int .u64 v, .int .u64 g.base, .int .u64 g.bt, .string g.snap, .slice s.a g.L.length s.c]
 t : t < 18446744073709551616
 v : v < 18446744073709551616
 log : RdLg W [.int .u64 g.base, .int .u64 g.bt, .string g.snap, .slice s.a g.L.length s.c] g s ok bk
theorem rdSt (hsz : cs.length = 6) (h : DataW.trod enc Tryz.prog W 0 (fun _ => true) true fuel 30 cs = some y) (hlt : ∀ q ∈ y.2, q.block < W.heap.size) : ∃ t v g s, RdSt W cs t v g s (Sm 30 y.1) (Rows.uptoBulk y.1) := by
 obtain ⟨n, hf⟩ := open_st Tryz.underlying30 h hlt
 obtain ⟨z0, h0, l0, w0, k0⟩ := hf 0 _ rfl
 obtain ⟨z1, h1, l1, w1, k1⟩ := hf 1 _ rfl
 obtain ⟨z2, h2, l2, w2, k2⟩ := hf 2 _ rfl
 match cs, hsz with
 | [c0, c1, c2, c3, c4, c5], _ =>
  simp only [List.getElem_toArray, List.getElem_cons_zero, List.getElem_cons_succ, cU64, cLg] at h0 h1 h2
  obtain ⟨x0, e0, b0⟩ := rdU64 (cs := [c0]) (by simpa using h0)
  obtain ⟨x1, e1, b1⟩ := rdU64 (cs := [c1]) (by simpa using h1)
  obtain ⟨g, s, hg⟩ := rdLg (cs := [c2, c3, c4, c5]) rfl (by simpa using h2) l2
  simp only [List.cons.injEq, and_true] at e0 e1
  subst e0 e1
  have hc := hg.cells
  simp only [List.cons.injEq, and_true] at hc
  obtain ⟨rfl, rfl, rfl, rfl⟩ := hc
  exact ⟨x0, x1, g, s, ⟨rfl, b0, b1, ⟨rfl, hg.base, hg.bt, hg.ec, hg.em, hg.E, fun hs => hg.sz (w2 hs), by have := hg.bulk.1; omega, by have := hg.bulk.2; omega⟩⟩⟩
structure RdMg (W : World) (cs : List Value) (m : Mg) (ok : Prop) (bk : Nat) : Prop where
 cells : cs = mgC m
 E : Ents W m.at_ m.es
 sz : ok → Bm m
 bulk : m.es.length ≤ bk ∧ m.snap.size ≤ bk
theorem rdMg (hsz : cs.length = 10) (h : DataW.trod enc Tryz.prog W 0 (fun _ => true) true fuel 59 cs = some y) (hlt : ∀ q ∈ y.2, q.block < W.heap.size) : ∃ m, RdMg W cs m (Sm 59 y.1) (Rows.uptoBulk y.1) := by
 obtain ⟨n, hf⟩ := open_st Tryz.underlying59 h hlt
 obtain ⟨z0, h0, l0, w0, k0⟩ := hf 0 _ rfl
 obtain ⟨z1, h1, l1, w1, k1⟩ := hf 1 _ rfl
 obtain ⟨z2, h2, l2, w2, k2⟩ := hf 2 _ rfl
 obtain ⟨z3, h3, l3, w3, k3⟩ := hf 3 _ rfl
 obtain ⟨z4, h4, l4, w4, k4⟩ := hf 4 _ rfl
 obtain ⟨z5, h5, l5, w5, k5⟩ := hf 5 _ rfl
 obtain ⟨z6, h6, l6, w6, k6⟩ := hf 6 _ rfl
 obtain ⟨z7, h7, l7, w7, k7⟩ := hf 7 _ rfl
 obtain ⟨z8, h8, l8, w8, k8⟩ := hf 8 _ rfl
 obtain ⟨z9, h9, l9, w9, k9⟩ := hf 9 _ rfl
 match cs, hsz with
 | [c0, c1, c2, c3, c4, c5, c6, c7, c8, c9], _ =>
  simp only [List.getElem_toArray, List.getElem_cons_zero, List.getElem_cons_succ, cInt, cU64, cBool, cStr, cEs] at h0 h1 h2 h3 h4 h5 h6 h7 h8 h9
  obtain ⟨x0, e0, _⟩ := rdInt (cs := [c0]) (by simpa using h0)
  obtain ⟨x1, e1, b1⟩ := rdU64 (cs := [c1]) (by simpa using h1)
  obtain ⟨x2, e2, b2⟩ := rdU64 (cs := [c2]) (by simpa using h2)
  obtain ⟨x3, e3, b3⟩ := rdU64 (cs := [c3]) (by simpa using h3)
  obtain ⟨x4, e4, b4⟩ := rdU64 (cs := [c4]) (by simpa using h4)
  obtain ⟨x5, e5, b5⟩ := rdU64 (cs := [c5]) (by simpa using h5)
  obtain ⟨x6, e6, b6⟩ := rdU64 (cs := [c6]) (by simpa using h6)
  obtain ⟨x7, e7⟩ := rdBool (cs := [c7]) (by simpa using h7)
  obtain ⟨s, L, rfl, q1, q2, m, g8, b8⟩ := rdEs (c0 := c8) (by simpa using h8) l8
  obtain ⟨x9, e9, b9, g9⟩ := rdStr (cs := [c9]) (by simpa using h9)
  simp only [List.cons.injEq, and_true] at e0 e1 e2 e3 e4 e5 e6 e7 e9
  subst e0 e1 e2 e3 e4 e5 e6 e7 e9
  exact ⟨⟨x0, x1, x2, x3, x4, x5, x6, x7, L, x9, s.a, s.c⟩, ⟨rfl, m, fun hs => ⟨b1, b2, b3, b4, b5, b6, (g8 (w8 hs)).1, b9 (w9 hs), (g8 (w8 hs)).2, q1, q2⟩, by show L.length ≤ _; omega, by show x9.size ≤ _; omega⟩⟩
end
end Go.Proofs.YtdcpiaoadbbdoaaGreatDoor
/- Arguments of stage 8: acts; what the laws on acts are asked of. -/
set_option maxRecDepth 100000
set_option maxHeartbeats 16000000
namespace Go.Proofs.YtdcpiaoadbbdoaaGreatDoor
open Go.ChangeShapes Go.WideShapes Go.ChangeAt Go.RowKit Go.Deep Go.Joins

section
variable {H : Type} {enc : TypeId × Value → H} {W : World} {fuel : Nat} {cs : List Value} {y : DataW H × List MemPlace}
theorem cAc : Tryz.prog.cellsOf 61 = 15 := by kernel_rfl
theorem cAcs : Tryz.prog.cellsOf 53 = 1 := by kernel_rfl
theorem cChg : Tryz.prog.cellsOf 36 = 2 := by kernel_rfl
def acC (x : Ac) : List Value := [.int .i64 x.k, .int .u64 x.n, .int .i64 x.m.kind, .int .u64 x.m.fr, .int .u64 x.m.dst, .int .u64 x.m.term, .int .u64 x.m.i, .int .u64 x.m.lt, .int .u64 x.m.commit, .bool x.m.ok, .slice x.m.at_ x.m.es.length x.m.cap, .string x.m.snap, .string x.s, .int .i64 x.xk, .int .u64 x.xi]
structure AcOk (W : World) (x : Ac) : Prop where
 n : x.n < 18446744073709551616
 m : Bm x.m
 E : Ents W x.m.at_ x.m.es
 s : x.s.size ≤ 140737488351232
 xi : x.xi < 18446744073709551616
theorem rdAc (hsz : cs.length = 15) (h : DataW.trod enc Tryz.prog W 0 (fun _ => true) true fuel 61 cs = some y) (hlt : ∀ q ∈ y.2, q.block < W.heap.size) : ∃ x : Ac, cs = acC x ∧ (Sm 61 y.1 → AcOk W x) := by
 obtain ⟨n, hf⟩ := open_st Tryz.underlying61 h hlt
 obtain ⟨z0, h0, l0, w0, k0⟩ := hf 0 _ rfl
 obtain ⟨z1, h1, l1, w1, k1⟩ := hf 1 _ rfl
 obtain ⟨z2, h2, l2, w2, k2⟩ := hf 2 _ rfl
 obtain ⟨z3, h3, l3, w3, k3⟩ := hf 3 _ rfl
 obtain ⟨z4, h4, l4, w4, k4⟩ := hf 4 _ rfl
 match cs, hsz with
 | [c0, c1, c2, c3, c4, c5, c6, c7, c8, c9, c10, c11, c12, c13, c14], _ =>
  simp only [List.getElem_toArray, List.getElem_cons_zero, List.getElem_cons_succ, cInt, cU64, cMsg, cStr, cChg] at h0 h1 h2 h3 h4
  obtain ⟨x0, e0, b0⟩ := rdInt (cs := [c0]) (by simpa using h0)
  obtain ⟨x1, e1, b1⟩ := rdU64 (cs := [c1]) (by simpa using h1)
  obtain ⟨m, hm⟩ := rdMg (cs := [c2, c3, c4, c5, c6, c7, c8, c9, c10, c11]) rfl (by simpa using h2) l2
  obtain ⟨s, e3, b3, _⟩ := rdStr (cs := [c12]) (by simpa using h3)
  have h4' : DataW.trod enc Tryz.prog W 0 (fun _ => true) true n 36 [c13, c14] = some z4 := by simpa using h4
  obtain ⟨n2, hf2⟩ := open_st Tryz.underlying36 h4' l4
  obtain ⟨u0, g0, _⟩ := hf2 0 _ rfl
  obtain ⟨u1, g1, _⟩ := hf2 1 _ rfl
  simp only [List.getElem_toArray, List.getElem_cons_zero, List.getElem_cons_succ, cInt, cU64] at g0 g1
  obtain ⟨x4, e4, b4⟩ := rdInt (cs := [c13]) (by simpa using g0)
  obtain ⟨x5, e5, b5⟩ := rdU64 (cs := [c14]) (by simpa using g1)
  have em := hm.cells
  simp only [mgC, List.cons.injEq, and_true] at e0 e1 e3 e4 e5 em
  subst e0 e1 e3 e4 e5
  obtain ⟨rfl, rfl, rfl, rfl, rfl, rfl, rfl, rfl, rfl, rfl⟩ := em
  exact ⟨⟨x0, x1, m, s, x4, x5⟩, rfl, fun ok => ⟨b1, hm.sz (w2 ok), hm.E, b3 (w3 ok), b5⟩⟩
abbrev Acs (w : World) (a : Option Addr) (L : List Ac) : Prop := Rw 15 acC w a L
theorem rdAcs {c0 : Value} (h : DataW.trod enc Tryz.prog W 0 (fun _ => true) true fuel 53 [c0] = some y) (hlt : ∀ q ∈ y.2, q.block < W.heap.size) :
 ∃ (s : Sa) (L : List Ac), c0 = .slice s.a L.length s.c ∧ Acs W s.a L ∧ (Sm 53 y.1 → L.length ≤ 140737488351232 ∧ ∀ x ∈ L, AcOk W x) := by
 obtain ⟨a, n, c, L, rfl, hr⟩ := rowOf_of (⟨0, 0, ⟨0, 0, 0, 0, 0, 0, 0, false, [], ⟨#[]⟩, none, 0⟩, ⟨#[]⟩, 0, 0⟩ : Ac) (fun cs x d => cs = acC x ∧ (Sm 61 d → AcOk W x)) Tryz.underlying53 cAc (by decide) (fun f cs z hsz ht hl => rdAc hsz ht hl) h hlt
 have hn := hr.hlen
 subst hn
 refine ⟨⟨a, c⟩, L, rfl, hr.rw (fun _ _ _ h => h.1), fun hs => ⟨?_, rowOf_all hr hs fun _ _ _ h hs => h.2 hs⟩⟩
 have := rowOf_sm hr hs (bs := Tryz.prog.bytesOf 61) rfl
 have hb : 1 ≤ Tryz.prog.bytesOf 61 := of_decide_eq_true (by kernel_rfl)
 exact Nat.le_trans (Nat.le_mul_of_pos_right _ hb) this
end
structure InArg (W : World) (v : Value) (id : Nat) (c : Cf) (s1 s2 : Sa) (t vt : Nat) (g : Lg) (sg : Sa) (A : List Ac) (sa : Sa) : Prop where
 val : v = .agg #[.int .u64 id, .slice s1.a c.V.length s1.c, .slice s2.a c.L.length s2.c, .int .u64 t, .int .u64 vt, .int .u64 g.base, .int .u64 g.bt, .string g.snap, .slice sg.a g.L.length sg.c, .slice sa.a A.length sa.c]
 id : id < 18446744073709551616
 V : Us W s1.a c.V
 L : Us W s2.a c.L
 vl : c.V.length ≤ 140737488351232
 ll : c.L.length ≤ 140737488351232
 E : Ents W sg.a g.L
 ec : g.L.length ≤ sg.c
 em : sg.c ≤ maxLen
 el : g.L.length ≤ 140737488351232
 snap : g.snap.size ≤ 140737488351232
 data : ∀ x ∈ g.L, x.d.size ≤ 140737488351232
 acts : Acs W sa.a A
 al : A.length ≤ 140737488351232
 ok : ∀ x ∈ A, AcOk W x
end Go.Proofs.YtdcpiaoadbbdoaaGreatDoor
/- Arguments of stage 8: what RaftStable is asked of. -/
set_option maxRecDepth 100000
set_option maxHeartbeats 16000000
namespace Go.Proofs.YtdcpiaoadbbdoaaGreatDoor
open Go.ChangeShapes Go.WideShapes Go.ChangeAt Go.RowKit Go.Deep Go.Joins

theorem cInRaftStable : Tryz.prog.cellsOf 71 = 10 := by kernel_rfl
theorem inArgRaftStable {H : Type} {enc : TypeId × Value → H} {W : World} {r : Reach} {b0 : Nat} {v : Value} {d : DataW H} {p : List MemPlace} {ts : List TypeId} {ds : List (DataW H)} {j : Nat}
 (hv : Value.okWide Tryz.prog W r b0 71 v) (h : DataW.Trod enc Tryz.prog W 0 (fun _ => true) true 71 v d p) (hlt : ∀ x ∈ p, x.block < W.heap.size)
 (hZ : (DataW.weightsEach Tryz.prog ts ds).all (· ≤ reachBytes) = true) (hj : ts[j]? = some 71) (hd : ds[j]? = some d) : ∃ id c s1 s2 t vt g sg A sa, InArg W v id c s1 s2 t vt g sg A sa := by
 obtain ⟨cs, rfl, hsz⟩ := okWide_struct Tryz.underlying71 hv
 rw [cInRaftStable] at hsz
 obtain ⟨fuel, hf0⟩ := h
 have hsm : Sm 71 d := sized_of hZ hj hd
 obtain ⟨n, hf⟩ := open_st Tryz.underlying71 hf0 hlt
 obtain ⟨z0, h0, l0, w0, k0⟩ := hf 0 _ rfl
 obtain ⟨z1, h1, l1, w1, k1⟩ := hf 1 _ rfl
 obtain ⟨z2, h2, l2, w2, k2⟩ := hf 2 _ rfl
 obtain ⟨z3, h3, l3, w3, k3⟩ := hf 3 _ rfl
 obtain ⟨l⟩ := cs
 match l, hsz with
 | [c0, c1, c2, c3, c4, c5, c6, c7, c8, c9], _ =>
  simp only [List.getElem_toArray, List.getElem_cons_zero, List.getElem_cons_succ, cU64, cCf, cStb, cAcs, Value.cells] at h0 h1 h2 h3
  obtain ⟨x0, e0, b0⟩ := rdU64 (cs := [c0]) (by simpa using h0)
  obtain ⟨cf, s1, s2, hc⟩ := rdCf (cs := [c1, c2]) rfl (by simpa using h1) l1
  obtain ⟨t, vt, g, sg, hs⟩ := rdSt (cs := [c3, c4, c5, c6, c7, c8]) rfl (by simpa using h2) l2
  obtain ⟨sa, A, rfl, ma, ga⟩ := rdAcs (c0 := c9) (by simpa using h3) l3
  have ec := hc.cells
  have es := hs.cells
  simp only [List.cons.injEq, and_true] at e0 ec es
  subst e0
  obtain ⟨rfl, rfl⟩ := ec
  obtain ⟨rfl, rfl, rfl, rfl, rfl, rfl⟩ := es
  have hlg := hs.log
  have k1' := hc.sz (w1 hsm)
  have k2' := hlg.sz (w2 hsm)
  have k3' := ga (w3 hsm)
  exact ⟨x0, cf, s1, s2, t, vt, g, sg, A, sa, ⟨rfl, b0, hc.V, hc.L, by omega, by omega, hlg.E, hlg.ec, hlg.em, by omega, k2'.1, fun x hx => (k2'.2.2 x hx).2, ma, k3'.1, k3'.2⟩⟩
end Go.Proofs.YtdcpiaoadbbdoaaGreatDoor
/- Arguments of stage 8: what RaftKeeps is asked of. -/
set_option maxRecDepth 100000
set_option maxHeartbeats 16000000
namespace Go.Proofs.YtdcpiaoadbbdoaaGreatDoor
open Go.ChangeShapes Go.WideShapes Go.ChangeAt Go.RowKit Go.Deep Go.Joins

theorem cInRaftKeeps : Tryz.prog.cellsOf 55 = 10 := by kernel_rfl
theorem inArgRaftKeeps {H : Type} {enc : TypeId × Value → H} {W : World} {r : Reach} {b0 : Nat} {v : Value} {d : DataW H} {p : List MemPlace} {ts : List TypeId} {ds : List (DataW H)} {j : Nat}
 (hv : Value.okWide Tryz.prog W r b0 55 v) (h : DataW.Trod enc Tryz.prog W 0 (fun _ => true) true 55 v d p) (hlt : ∀ x ∈ p, x.block < W.heap.size)
 (hZ : (DataW.weightsEach Tryz.prog ts ds).all (· ≤ reachBytes) = true) (hj : ts[j]? = some 55) (hd : ds[j]? = some d) : ∃ id c s1 s2 t vt g sg A sa, InArg W v id c s1 s2 t vt g sg A sa := by
 obtain ⟨cs, rfl, hsz⟩ := okWide_struct Tryz.underlying55 hv
 rw [cInRaftKeeps] at hsz
 obtain ⟨fuel, hf0⟩ := h
 have hsm : Sm 55 d := sized_of hZ hj hd
 obtain ⟨n, hf⟩ := open_st Tryz.underlying55 hf0 hlt
 obtain ⟨z0, h0, l0, w0, k0⟩ := hf 0 _ rfl
 obtain ⟨z1, h1, l1, w1, k1⟩ := hf 1 _ rfl
 obtain ⟨z2, h2, l2, w2, k2⟩ := hf 2 _ rfl
 obtain ⟨z3, h3, l3, w3, k3⟩ := hf 3 _ rfl
 obtain ⟨l⟩ := cs
 match l, hsz with
 | [c0, c1, c2, c3, c4, c5, c6, c7, c8, c9], _ =>
  simp only [List.getElem_toArray, List.getElem_cons_zero, List.getElem_cons_succ, cU64, cCf, cStb, cAcs, Value.cells] at h0 h1 h2 h3
  obtain ⟨x0, e0, b0⟩ := rdU64 (cs := [c0]) (by simpa using h0)
  obtain ⟨cf, s1, s2, hc⟩ := rdCf (cs := [c1, c2]) rfl (by simpa using h1) l1
  obtain ⟨t, vt, g, sg, hs⟩ := rdSt (cs := [c3, c4, c5, c6, c7, c8]) rfl (by simpa using h2) l2
  obtain ⟨sa, A, rfl, ma, ga⟩ := rdAcs (c0 := c9) (by simpa using h3) l3
  have ec := hc.cells
  have es := hs.cells
  simp only [List.cons.injEq, and_true] at e0 ec es
  subst e0
  obtain ⟨rfl, rfl⟩ := ec
  obtain ⟨rfl, rfl, rfl, rfl, rfl, rfl⟩ := es
  have hlg := hs.log
  have k1' := hc.sz (w1 hsm)
  have k2' := hlg.sz (w2 hsm)
  have k3' := ga (w3 hsm)
  exact ⟨x0, cf, s1, s2, t, vt, g, sg, A, sa, ⟨rfl, b0, hc.V, hc.L, by omega, by omega, hlg.E, hlg.ec, hlg.em, by omega, k2'.1, fun x hx => (k2'.2.2 x hx).2, ma, k3'.1, k3'.2⟩⟩
end Go.Proofs.YtdcpiaoadbbdoaaGreatDoor
/- Arguments of stage 8: what RaftVotes is asked of. -/
set_option maxRecDepth 100000
set_option maxHeartbeats 16000000
namespace Go.Proofs.YtdcpiaoadbbdoaaGreatDoor
open Go.ChangeShapes Go.WideShapes Go.ChangeAt Go.RowKit Go.Deep Go.Joins

theorem cInRaftVotes : Tryz.prog.cellsOf 67 = 10 := by kernel_rfl
theorem inArgRaftVotes {H : Type} {enc : TypeId × Value → H} {W : World} {r : Reach} {b0 : Nat} {v : Value} {d : DataW H} {p : List MemPlace} {ts : List TypeId} {ds : List (DataW H)} {j : Nat}
 (hv : Value.okWide Tryz.prog W r b0 67 v) (h : DataW.Trod enc Tryz.prog W 0 (fun _ => true) true 67 v d p) (hlt : ∀ x ∈ p, x.block < W.heap.size)
 (hZ : (DataW.weightsEach Tryz.prog ts ds).all (· ≤ reachBytes) = true) (hj : ts[j]? = some 67) (hd : ds[j]? = some d) : ∃ id c s1 s2 t vt g sg A sa, InArg W v id c s1 s2 t vt g sg A sa := by
 obtain ⟨cs, rfl, hsz⟩ := okWide_struct Tryz.underlying67 hv
 rw [cInRaftVotes] at hsz
 obtain ⟨fuel, hf0⟩ := h
 have hsm : Sm 67 d := sized_of hZ hj hd
 obtain ⟨n, hf⟩ := open_st Tryz.underlying67 hf0 hlt
 obtain ⟨z0, h0, l0, w0, k0⟩ := hf 0 _ rfl
 obtain ⟨z1, h1, l1, w1, k1⟩ := hf 1 _ rfl
 obtain ⟨z2, h2, l2, w2, k2⟩ := hf 2 _ rfl
 obtain ⟨z3, h3, l3, w3, k3⟩ := hf 3 _ rfl
 obtain ⟨l⟩ := cs
 match l, hsz with
 | [c0, c1, c2, c3, c4, c5, c6, c7, c8, c9], _ =>
  simp only [List.getElem_toArray, List.getElem_cons_zero, List.getElem_cons_succ, cU64, cCf, cStb, cAcs, Value.cells] at h0 h1 h2 h3
  obtain ⟨x0, e0, b0⟩ := rdU64 (cs := [c0]) (by simpa using h0)
  obtain ⟨cf, s1, s2, hc⟩ := rdCf (cs := [c1, c2]) rfl (by simpa using h1) l1
  obtain ⟨t, vt, g, sg, hs⟩ := rdSt (cs := [c3, c4, c5, c6, c7, c8]) rfl (by simpa using h2) l2
  obtain ⟨sa, A, rfl, ma, ga⟩ := rdAcs (c0 := c9) (by simpa using h3) l3
  have ec := hc.cells
  have es := hs.cells
  simp only [List.cons.injEq, and_true] at e0 ec es
  subst e0
  obtain ⟨rfl, rfl⟩ := ec
  obtain ⟨rfl, rfl, rfl, rfl, rfl, rfl⟩ := es
  have hlg := hs.log
  have k1' := hc.sz (w1 hsm)
  have k2' := hlg.sz (w2 hsm)
  have k3' := ga (w3 hsm)
  exact ⟨x0, cf, s1, s2, t, vt, g, sg, A, sa, ⟨rfl, b0, hc.V, hc.L, by omega, by omega, hlg.E, hlg.ec, hlg.em, by omega, k2'.1, fun x hx => (k2'.2.2 x hx).2, ma, k3'.1, k3'.2⟩⟩

theorem pDoes_any (p : Pn) (d : Ad) (hI : Iv p) (hhd : p.heard ≤ 10) (a : Ac) (hn : a.n < 18446744073709551616) (hm : Bm a.m) (hs : a.s.size ≤ 140737488351232) (hxi : a.xi < 18446744073709551616) (hes : a.m.es.length ≤ 8000000000000) (K : Nat) (w : World) (hK : K ≤ w.heap.size) (hT : Tz w) (hM : NdM K w p d) (hE : Ents w a.m.at_ a.m.es) :
 Calls Tryz.prog 17 #[ndV p d, .agg #[.int .i64 a.k, .int .u64 a.n, .int .i64 a.m.kind, .int .u64 a.m.fr, .int .u64 a.m.dst, .int .u64 a.m.term, .int .u64 a.m.i, .int .u64 a.m.lt, .int .u64 a.m.commit, .bool a.m.ok, .slice a.m.at_ a.m.es.length a.m.cap, .string a.m.snap, .string a.s, .int .i64 a.xk, .int .u64 a.xi]] w (NvP K w (doesP p a)) := by
 by_cases hk1 : a.k = 1
 · exact pDoes_1 p d hI hhd a hn hm hs hxi hes K w hK hT hM hE hk1
 by_cases hk2 : a.k = 2
 · exact pDoes_2 p d hI hhd a hn hm hs hxi hes K w hK hT hM hE hk2
 by_cases hk3 : a.k = 3
 · by_cases h0 : offX p a.s = 0
   · exact pDoes_3a p d hI hhd a hn hm hs hxi hes K w hK hT hM hE hk3 h0
   · exact pDoes_3b p d hI hhd a hn hm hs hxi hes K w hK hT hM hE hk3 h0
 by_cases hk4 : a.k = 4
 · by_cases h0 : chgX p a.xk a.xi = 0
   · exact pDoes_4a p d hI hhd a hn hm hs hxi hes K w hK hT hM hE hk4 h0
   · exact pDoes_4b p d hI hhd a hn hm hs hxi hes K w hK hT hM hE hk4 h0
 by_cases hk5 : a.k = 5
 · by_cases h0 : cmpX p a.n a.s = 0
   · exact pDoes_5a p d hI hhd a hn hm hs hxi hes K w hK hT hM hE hk5 h0
   · exact pDoes_5b p d hI hhd a hn hm hs hxi hes K w hK hT hM hE hk5 h0
 · exact pDoes_0 p d hI hhd a hn hm hs hxi hes K w hK hT hM hE hk1 hk2 hk3 hk4 hk5

theorem actT : StT 61 15 := ⟨fun w => by kernel_rfl, fun w => by kernel_rfl⟩
theorem ocAc : Oc 53 := ⟨fun w => by kernel_rfl, fun w => by kernel_rfl⟩
theorem run_load_el {w : World} {T : TypeId} {n b i : Nat} (M : List Value) (hS : StT T n) (hn : M.length = n) (hc : ∀ j u, M[j]? = some u → w.cell? ⟨b, i + j, none⟩ = some u) : (loadVar T ⟨b, i, none⟩).run Tryz.prog w = .ok (.agg M.toArray) w := by
 subst hn
 have hl : (loadCells ⟨b, i, none⟩ M.length).run Tryz.prog w = .ok M.toArray w := by
  refine run_loadCells_list (P := Tryz.prog) w ⟨b, i, none⟩ M (fun j v hv => ?_)
  rw [addG']; exact hc j v hv
 simp [loadVar, Sem.run_bind, hS.agg, hS.size, hl]
theorem exec_load_el {o : Oper} {a : Act} {w : World} {T : TypeId} {n : Nat} (x : Operand) (ho : o.op = .load T x) {b i : Nat} (hx : a.eval x = .pointer (some ⟨b, i, none⟩)) (M : List Value) (hS : StT T n) (hn : M.length = n) (hc : ∀ j u, M[j]? = some u → w.cell? ⟨b, i + j, none⟩ = some u) : (execOp a.eval o).run Tryz.prog w = .ok (.value (.agg M.toArray)) w := by
 unfold execOp
 simp only [ho, hx, Instr.loadAt, Instr.sureAddr, Sem.run_bind, Sem.run_pure, Result.andThen_ok, run_load_el M hS hn hc]
theorem act_sub (x : Ac) (i n : Nat) (M : List Value) (hM : ((acC x).drop i).take n = M) (hn : M.length = n) {w : World} {b q : Nat} (hc : ∀ j u, (acC x)[j]? = some u → w.cell? ⟨b, q + j, none⟩ = some u) : ∀ j u, M[j]? = some u → w.cell? ⟨b, q + i + j, none⟩ = some u := fun j u hu => by
 have hj := (List.getElem?_eq_some_iff.1 hu).1
 rw [← hM, List.getElem?_take_of_lt (by omega), List.getElem?_drop] at hu
 rw [Nat.add_assoc]
 exact hc _ u hu
def Yes (w : World) (e : Ending) (w' : World) : Prop := e = .returned (.bool true) ∧ Below w.heap.size w w'
end Go.Proofs.YtdcpiaoadbbdoaaGreatDoor
