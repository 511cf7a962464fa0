/- A message of no kind. -/
import Derived.Test.YtdcpiaoadbbdoaaGreatDoorRtake
import Derived.Test.YtdcpiaoadbbdoaaGreatDoorQht
import Derived.Test.YtdcpiaoadbbdoaaGreatDoorQhea
import Derived.Test.YtdcpiaoadbbdoaaGreatDoorQhed
import Derived.Test.YtdcpiaoadbbdoaaGreatDoorQtia
import Derived.Test.YtdcpiaoadbbdoaaGreatDoorQtib
import Derived.Test.YtdcpiaoadbbdoaaGreatDoorZk
import Derived.Test.YtdcpiaoadbbdoaaGreatDoorQz
import Derived.Test.YtdcpiaoadbbdoaaGreatDoorQhr
import Derived.Test.YtdcpiaoadbbdoaaGreatDoorQch2
import Derived.Test.YtdcpiaoadbbdoaaGreatDoorQch3
import Derived.Test.YtdcpiaoadbbdoaaGreatDoorQof
import Derived.Test.YtdcpiaoadbbdoaaGreatDoorQcp
set_option maxRecDepth 100000
set_option maxHeartbeats 16000000
namespace Go.Proofs.YtdcpiaoadbbdoaaGreatDoor
open Go.RowKit

theorem pHear_k0 (p : Pn) (d : Ad) (_ : Bd p) (m : Mg) (_ : Bm m) (_ : p.g.L.length + m.es.length ≤ 9000000000000) (_ : p.voices.length * 16 ≤ 140737488352900) (_ : p.next.length * 16 ≤ 140737488352900) (_ : p.mat.length * 16 ≤ 140737488352900) (K : Nat) (w : World) (hK : K ≤ w.heap.size) (hM : NdM K w p d) (hE : Ents w m.at_ m.es) (h1 : m.dst = p.id) (h2 : ¬ m.fr = p.id) (h3 : 1 ≤ m.fr ∧ m.fr ≤ 63) (h4 : ¬ 4611686018427387903 < m.term) (k1 : ¬ m.kind = 1) (k2 : ¬ m.kind = 2) (k3 : ¬ m.kind = 3) (k4 : ¬ m.kind = 4) (k5 : ¬ m.kind = 5) (k6 : ¬ m.kind = 6) (k7 : ¬ m.kind = 7) :
 Calls Tryz.prog 19 #[ndV p d, mgV m] w (NmP K w (hearP p m)) := by
 obtain ⟨W, hW, B0, N0, Z0⟩ := nk_new w p d
 obtain ⟨Wm, ym, hWm, hym, Bm, HG, Zm⟩ := bk_new W (mgA m) 59
 obtain ⟨W1, y, hW1, hy, B1, HR, Z1⟩ := bk_new Wm znA 34
 have Bm' : Below W.heap.size W Wm := hym ▸ Bm
 have B1' : Below Wm.heap.size Wm W1 := hy ▸ B1
 have HB1 := B0.trans (Bm'.mono B0.size)
 have HN := (N0.later Bm').later B1'
 replace HG := HG.later B1'
 have HB := HB1.trans (B1'.mono HB1.size)
 have hyn := hI_ (show w.heap.size < y ∧ w.heap.size < ym ∧ ym < y by have := Z0.out; have := Zm.out; omega)
 clear B0 N0 B1 Bm Bm' B1' HB1
 unfold ndA at hW
 unfold mgA at hWm
 unfold znA at hW1
 have HM := hM.later HB
 have HKK := hI_ hK
 have HEE := hI_ (show ∀ w1, Below w.heap.size w w1 → Ents w1 m.at_ m.es from fun w1 hb => hE.later hb)
 have c0 := HN.bx.c 0 _ rfl
 have e1 := HG.bx.c 1 _ rfl
 have e3 := HG.bx.c 3 _ rfl
 clear hM hE
 have HQ := hI_ (show hearP p m = (p, []) by unfold hearP; rw [if_neg (by rintro (h | h | h | h); exact h h1; exact h2 h; exact h h3; exact h4 h), if_neg k1, if_neg k3, if_neg k2, if_neg (by rintro (h | h | h | h); exact k4 h; exact k5 h; exact k6 h; exact k7 h)])
 have g1 : (((m.dst : Nat) : Int) == ((p.id : Nat) : Int)) = true := by first | (simp; done) | (simp; omega)
 have g1' : (((m.dst : Nat) : Int) != ((p.id : Nat) : Int)) = false := by first | (simp; done) | (simp; omega)
 have g2 : (((m.fr : Nat) : Int) == ((p.id : Nat) : Int)) = false := by first | (simp; done) | (simp; omega)
 have g2' : (((m.fr : Nat) : Int) != ((p.id : Nat) : Int)) = true := by first | (simp; done) | (simp; omega)
 have g4 : decide ((4611686018427387903 : Int) < (m.term : Int)) = false := by simp; omega
 have gk1 : (m.kind == 1) = false := by simpa using k1
 have gk2 : (m.kind == 2) = false := by simpa using k2
 have gk3 : (m.kind == 3) = false := by simpa using k3
 have gk4 : (m.kind == 4) = false := by simpa using k4
 have gk5 : (m.kind == 5) = false := by simpa using k5
 have gk6 : (m.kind == 6) = false := by simpa using k6
 have gk7 : (m.kind == 7) = false := by simpa using k7
 clear h1
 go_enter Tryz.func19, Tryz.ntmps19
 go_wp2_with (first
  | (refine lCc rfl _ rfl rfl (ocA rfl) (by assumption) rfl ?_))
 refine (pMayIdR_any m.fr _).mono ?_
 rintro e w2 ⟨rfl, rfl⟩
 rw [show decide (1 ≤ m.fr ∧ m.fr ≤ 63) = true by simp; omega]
 go_wp2_with (first
  | (refine lCc rfl _ rfl rfl (ocA rfl) (by assumption) rfl ?_)
  | (refine lBk rfl _ rfl rfl nodeT HN rfl ?_)
  | (refine sBk rfl _ _ rfl rfl rfl nodeT HR rfl rfl rfl ?_; intro w' hk hg; replace HN := HN.grown hg (by have := hyn.out; omega); replace HG := HG.grown hg (by have := hyn.out; omega); replace HM := HM.grown hg (by have := hyn.out; omega) HR.bx.ty bNd; replace HB := bGr HB hg HB.size (by have := hyn.out; omega); replace HR := hk; clear hk hg))
 refine bodyPost_ret (v := .tuple #[ndV p d, .slice none 0 0]) (by rw [rBt Tryz.results19 _ rfl nodeT HR rfl]; rfl) rfl ?_
 rw [HQ.out]
 exact ⟨d, _, [], rfl, HM, CqG.nil _ _ none, rfl, HB⟩

theorem pHear_any (p : Pn) (d : Ad) (hBd : Bd p) (m : Mg) (hm : Bm m) (hes : p.g.L.length + m.es.length ≤ 9000000000000) (hvb : p.voices.length * 16 ≤ 140737488352900) (hnx : p.next.length * 16 ≤ 140737488352900) (hmt : p.mat.length * 16 ≤ 140737488352900) (K : Nat) (w : World) (hK : K ≤ w.heap.size) (hM : NdM K w p d) (hE : Ents w m.at_ m.es) :
 Calls Tryz.prog 19 #[ndV p d, mgV m] w (NmP K w (hearP p m)) := by
 by_cases h1 : m.dst = p.id
 · by_cases h2 : m.fr = p.id
   · exact pHear_r2 p d hBd m hm hes hvb hnx hmt K w hK hM hE h1 h2
   · by_cases h3 : 1 ≤ m.fr ∧ m.fr ≤ 63
     · by_cases h4 : 4611686018427387903 < m.term
       · exact pHear_r4 p d hBd m hm hes hvb hnx hmt K w hK hM hE h1 h2 h3 h4
       · by_cases k1 : m.kind = 1
         · exact pHear_k1 p d hBd m hm hes hvb hnx hmt K w hK hM hE h1 h2 h3 h4 k1
         by_cases k2 : m.kind = 2
         · exact pHear_k2 p d hBd m hm hes hvb hnx hmt K w hK hM hE h1 h2 h3 h4 k2
         by_cases k3 : m.kind = 3
         · exact pHear_k3 p d hBd m hm hes hvb hnx hmt K w hK hM hE h1 h2 h3 h4 k3
         by_cases k4 : m.kind = 4
         · exact pHear_k4 p d hBd m hm hes hvb hnx hmt K w hK hM hE h1 h2 h3 h4 k4
         by_cases k5 : m.kind = 5
         · exact pHear_k5 p d hBd m hm hes hvb hnx hmt K w hK hM hE h1 h2 h3 h4 k5
         by_cases k6 : m.kind = 6
         · exact pHear_k6 p d hBd m hm hes hvb hnx hmt K w hK hM hE h1 h2 h3 h4 k6
         by_cases k7 : m.kind = 7
         · exact pHear_k7 p d hBd m hm hes hvb hnx hmt K w hK hM hE h1 h2 h3 h4 k7
         exact pHear_k0 p d hBd m hm hes hvb hnx hmt K w hK hM hE h1 h2 h3 h4 k1 k2 k3 k4 k5 k6 k7
     · exact pHear_r3 p d hBd m hm hes hvb hnx hmt K w hK hM hE h1 h2 h3
 · exact pHear_r1 p d hBd m hm hes hvb hnx hmt K w hK hM hE h1

theorem pTick_any (p : Pn) (d : Ad) (hBd : Bd p) (hhd : p.heard ≤ 10) (draw : Nat) (K : Nat) (w : World) (hK : K ≤ w.heap.size) (hM : NdM K w p d) :
 Calls Tryz.prog 22 #[ndV p d, .int .u64 draw] w (NmP K w (tickP p draw)) := by
 by_cases hh : 0 < p.heard
 · exact pTick_1 p d hBd hhd draw K w hK hM hh
 · exact pTick_2 p d hBd hhd draw K w hK hM hh

def nd0 : Pn := newP 1 ⟨[1], []⟩ 0 0 ⟨0, 0, ⟨#[]⟩, []⟩
def tkN : Nat → Pn
 | 0 => nd0
 | k + 1 => (tickP (tkN k) 0).1
theorem nd0_ok : newOk 1 ⟨[1], []⟩ 0 0 ⟨0, 0, ⟨#[]⟩, []⟩ := ⟨by decide, by decide, ⟨by decide, by decide, by decide, by decide, by decide, by decide, by decide, fun _ => ⟨rfl, rfl⟩, fun k x hx => by simp at hx⟩⟩
theorem tk_iv : ∀ k, Iv (tkN k) ∧ (tkN k).heard ≤ 10
 | 0 => ⟨iv_new nd0_ok.1 nd0_ok.2.1 nd0_ok.2.2, by show (0 : Int) ≤ 10; omega⟩
 | k + 1 => ⟨iv_tick (tk_iv k).1 0, hd_tick (tk_iv k).2 0⟩
theorem tk20 : (tkN 20).role = 3 ∧ (tkN 20).term = 1 ∧ (tkN 20).g.L.length = 1 ∧ (tkN 20).commit = 1 := ⟨by kernel_rfl, by kernel_rfl, by kernel_rfl, by kernel_rfl⟩
theorem pShown_any (w : World) : Calls Tryz.prog 8 #[] w fun e w' => e = .returned (.bool true) ∧ Below w.heap.size w w' := by
 obtain ⟨W, hW, hs0, HB, HU⟩ : ∃ W, w.alloc (.cells #[.int .u64 1] 22) = W ∧ W.heap.size = w.heap.size + 1 ∧ Below w.heap.size w W ∧ Us W (some ⟨w.heap.size, 0, none⟩) [1] := by
  obtain ⟨z, hz, h1, h2⟩ := us_at (Below.refl w.heap.size w) 1
  subst hz
  exact ⟨_, rfl, by simp, h1, h2⟩
 have hfx : ∃ f : Nat → Pn, f 0 = nd0 ∧ (∀ k, f (k + 1) = (tickP (f k) 0).1) ∧ (∀ k, Iv (f k) ∧ (f k).heard ≤ 10) ∧ ((f 20).role = 3 ∧ (f 20).term = 1 ∧ (f 20).g.L.length = 1 ∧ (f 20).commit = 1) := ⟨tkN, rfl, fun _ => rfl, tk_iv, tk20⟩
 obtain ⟨f, hf0, hfs, hfi, hf20⟩ := hfx
 have HF0 := hI_ hf0
 have HFS := hI_ hfs
 have HF20 := hI_ hf20
 clear hf0 hfs hf20
 obtain ⟨K, hK⟩ : ∃ K, K = W.heap.size := ⟨_, rfl⟩
 have HNW := hI_ (pNew_any 1 ⟨[1], []⟩ ⟨some ⟨w.heap.size, 0, none⟩, 1⟩ ⟨none, 0⟩ ⟨none, 0⟩ 0 0 ⟨0, 0, ⟨#[]⟩, []⟩ (by decide) (by decide) (by decide) (by decide) (by decide) (by decide) (by decide) (fun x hx => by cases hx) K W (by omega) HU (Us.nil _ _) (Ents.nil _ _))
 have HS0 := hI_ hs0
 have HKE := hI_ hK
 clear hs0 HU hK
 go_enter Tryz.func8, Tryz.ntmps8
 go_wp2_with fail
 refine HNW.out.mono ?_
 rintro e w1 ⟨hn, hb⟩
 have hn : ∃ d, e = .returned (.tuple #[ndV (f 0) d, .int .i64 0]) ∧ NdM K w1 (f 0) d := by
  rcases hn with h | h
  · rw [HF0.out]; exact h.2
  · exact absurd nd0_ok h.1
 obtain ⟨D0, rfl, HM⟩ := hn
 replace HB := HB.trans (hb.mono HB.size)
 have hsz := hI_ (show K ≤ w1.heap.size by rw [HKE.out]; exact hb.size)
 obtain ⟨w2, xn, hw2, hxn, B2, HN, Z2⟩ := bk_new w1 znA 34
 have B2' : Below w1.heap.size w1 w2 := hxn ▸ B2
 have hKx : K ≤ xn := by have := hsz.out; omega
 have hxx := hI_ (show w.heap.size ≤ xn by have := HKE.out; have := HS0.out; omega)
 replace HB := HB.trans (B2'.mono HB.size)
 replace HM := HM.later B2'
 unfold znA at hw2
 clear B2 B2' hb
 have HT := hI_ hfi
 clear hfi
 go_wp2_with (first
  | (refine sBk rfl _ _ rfl rfl (M := ndL (f 0) D0) rfl nodeT HN rfl rfl rfl ?_; intro w' hk hg; replace HM := HM.grown hg hKx HN.bx.ty bNd; replace HB := bGr HB hg HB.size (by have := hxx.out; omega); replace HN := hk; clear hk hg))
 go_loopw [3] (fun u wr => ∃ (k : Nat) (D : Ad), k ≤ 20 ∧ u = .int .i64 k ∧ Bk wr xn 34 (ndL (f k) D) ∧ NdM K wr (f k) D ∧ Below w.heap.size w wr) (fun u _ => 20 - (intOf u).toNat)
 case atStart => exact ⟨0, D0, by omega, rfl, HN, HM, HB⟩
 case round =>
  obtain ⟨k, D, hk, rfl, HN, HM, HB⟩ := hrel
  by_cases hlt : k < 20
  · have i1 : (k : Int) < 20 := by omega
    obtain ⟨P, hP⟩ : ∃ P, f k = P := ⟨_, rfl⟩
    obtain ⟨P3, M3, h3⟩ : ∃ P3 M3, tickP P 0 = (P3, M3) := ⟨_, _, rfl⟩
    have HP3 := hI_ (show f (k + 1) = P3 by rw [HFS.out, hP, h3])
    have HI := hI_ (show Iv P ∧ P.heard ≤ 10 by rw [← hP]; exact HT.out k)
    have H3 := hI_ h3
    rw [hP] at HN HM
    clear hP h3
    go_wp2_with (first
     | (refine lBk rfl _ rfl rfl nodeT HN rfl ?_))
    refine (pTick_any P D HI.out.1.bd HI.out.2 0 K _ (Nat.le_trans hKx (Nat.le_of_lt HN.lt)) HM).mono ?_
    rw [H3.out]
    rintro e w6 ⟨D3, v, O, rfl, hm3, hC, hO, hb⟩
    replace HB := HB.trans (hb.mono HB.size)
    replace HN := HN.later hb
    replace HM := hm3
    clear hb hm3 hC hO
    simp only at HM
    go_wp2_with (first
     | (refine sBk rfl _ _ rfl rfl rfl nodeT HN rfl rfl rfl ?_; intro w' hk hg; replace HM := HM.grown hg hKx HN.bx.ty bNd; replace HB := bGr HB hg HB.size (by have := hxx.out; omega); replace HN := hk; clear hk hg))
    go_roundw
    case rel => exact ⟨k + 1, D3, by omega, by go_num, by rw [HP3.out]; exact HN, by rw [HP3.out]; exact HM, HB⟩
    case measure => simp [intOf]; omega
  · obtain rfl : k = 20 := by omega
    obtain ⟨h1, h2, h3, h4⟩ := HF20.out
    obtain ⟨P, hP⟩ : ∃ P, f 20 = P := ⟨_, rfl⟩
    rw [hP] at HN h1 h2 h3 h4
    clear HM hP HT
    have c9 := HN.bx.c 9 _ rfl
    have c3 := HN.bx.c 3 _ rfl
    have c8 := HN.bx.c 8 _ rfl
    have c11 := HN.bx.c 11 _ rfl
    rw [h1] at c9
    rw [h2] at c3
    rw [h3] at c8
    rw [h4] at c11
    clear h1 h2 h3 h4
    go_wp2_with fail
    go_ret
    exact ⟨rfl, HB⟩

theorem pChange_any (p : Pn) (d : Ad) (hBd : Bd p) (hnx : p.next.length * 16 ≤ 140737488351232) (hmt : p.mat.length * 16 ≤ 140737488351232) (k : Int) (i : Nat) (hi : i < 18446744073709551616) (K : Nat) (w : World) (hK : K ≤ w.heap.size) (hT : Tz w) (hM : NdM K w p d) :
 Calls Tryz.prog 10 #[ndV p d, .agg #[.int .i64 k, .int .u64 i]] w (OcP K w (chgX p k i) (chgP p k i)) := by
 by_cases h1 : p.role = 3
 · by_cases h2 : k = 3 ∧ i = p.id
   · exact pChange_2 p d hBd hnx hmt k i hi K w hK hT hM h1 h2
   · by_cases h3 : busyB p = true
     · exact pChange_3 p d hBd hnx hmt k i hi K w hK hT hM h1 h2 h3
     · by_cases h4 : (nxC p k i).2 = 0
       · by_cases h0 : addX p (chgD p k i) = 0
         · exact pChange_6 p d hBd hnx hmt k i hi K w hK hT hM h1 h2 h3 h4 h0
         · exact pChange_5 p d hBd hnx hmt k i hi K w hK hT hM h1 h2 h3 h4 h0
       · exact pChange_4 p d hBd hnx hmt k i hi K w hK hT hM h1 h2 h3 h4
 · exact pChange_1 p d hBd hnx hmt k i hi K w hK hT hM h1

theorem pDoes_1 (p : Pn) (d : Ad) (hI : Iv p) (hhd : p.heard ≤ 10) (a : Ac) (_ : a.n < 18446744073709551616) (_ : Bm a.m) (_ : a.s.size ≤ 140737488351232) (_ : a.xi < 18446744073709551616) (_ : a.m.es.length ≤ 8000000000000) (K : Nat) (w : World) (hK : K ≤ w.heap.size) (hT : Tz w) (hM : NdM K w p d) (hE : Ents w a.m.at_ a.m.es) (hk : a.k = 1) :
 Calls Tryz.prog 17 #[ndV p d, .agg #[.int .i64 a.k, .int .u64 a.n, .int .i64 a.m.kind, .int .u64 a.m.fr, .int .u64 a.m.dst, .int .u64 a.m.term, .int .u64 a.m.i, .int .u64 a.m.lt, .int .u64 a.m.commit, .bool a.m.ok, .slice a.m.at_ a.m.es.length a.m.cap, .string a.m.snap, .string a.s, .int .i64 a.xk, .int .u64 a.xi]] w (NvP K w (doesP p a)) := by
 obtain ⟨W, hW, B0, N0, Z0⟩ := nk_new w p d
 obtain ⟨Wm, xa, hWm, hxa, Bm', HG, Zm⟩ := bk_new W #[.int .i64 a.k, .int .u64 a.n, .int .i64 a.m.kind, .int .u64 a.m.fr, .int .u64 a.m.dst, .int .u64 a.m.term, .int .u64 a.m.i, .int .u64 a.m.lt, .int .u64 a.m.commit, .bool a.m.ok, .slice a.m.at_ a.m.es.length a.m.cap, .string a.m.snap, .string a.s, .int .i64 a.xk, .int .u64 a.xi] 61
 obtain ⟨W1, y, hW1, hy, B1, HR, Z1⟩ := bk_new Wm znA 34
 have Bm2 : Below W.heap.size W Wm := hxa ▸ Bm'
 have B1' : Below Wm.heap.size Wm W1 := hy ▸ B1
 have HB1 := B0.trans (Bm2.mono B0.size)
 have HN := (N0.later Bm2).later B1'
 replace HG := HG.later B1'
 have HB := HB1.trans (B1'.mono HB1.size)
 have hyn := hI_ (show w.heap.size < y ∧ w.heap.size < xa ∧ xa < y by have := Z0.out; have := Zm.out; omega)
 clear B0 N0 B1 Bm' Bm2 B1' HB1
 unfold ndA at hW
 unfold znA at hW1
 have HM := hM.later HB
 have HTZ := hI_ (show ∀ w1, Below w.heap.size w w1 → Tz w1 from fun w1 h => hT.below (h.mono hT.n))
 have HEE := hI_ (show ∀ w1, Below w.heap.size w w1 → Ents w1 a.m.at_ a.m.es from fun w1 h => hE.later h)
 have hvl := hI.vlen
 have hnl := hI.nlen
 have hml := hI.mlen
 have hbd := hI.bd
 have hgl := hI.g.len
 clear hM hE
 have gk1 : (a.k == 1) = true := by rw [hk]; rfl
 obtain ⟨P3, M3, h3⟩ : ∃ P3 M3, tickP p a.n = (P3, M3) := ⟨_, _, rfl⟩
 have HQ := hI_ (show doesP p a = P3 by unfold doesP; rw [if_pos hk, h3])
 have HCA := hI_ (show ∀ w1, K ≤ w1.heap.size → NdM K w1 p d → Below w.heap.size w w1 → Calls Tryz.prog 22 #[ndV p d, .int .u64 a.n] w1 (NmP K w1 (P3, M3)) from fun w1 h1 h2 hbw => by
  have h := pTick_any p d hbd hhd a.n K w1 h1 h2
  rw [h3] at h; exact h)
 clear h3 hk
 go_enter Tryz.func17, Tryz.ntmps17
 go_wp2_with (first
  | (refine lCc rfl _ rfl rfl (ocA rfl) (by assumption) rfl ?_)
  | (refine lBk rfl _ rfl rfl nodeT HN rfl ?_))
 refine (HCA.out _ (Nat.le_trans hK HB.size) HM HB).mono ?_
 rintro e w2 ⟨D3, v, O, rfl, hm3, _, _, hb⟩
 replace HB := HB.trans (hb.mono HB.size)
 replace HR := HR.later hb
 replace HN := HN.later hb
 replace HG := HG.later hb
 replace HM := hm3
 clear hb hm3
 simp only at HM
 obtain ⟨w5, y5, hw5, hy5, B5, H5, Z5⟩ := bk_new w2 znA 34
 have B5' : Below w2.heap.size w2 w5 := hy5 ▸ B5
 have hy5n := hI_ (show w.heap.size < y5 ∧ xa < y5 ∧ y < y5 ∧ K ≤ y5 by have h1 := HN.lt; have h2 := HG.lt; have h3 := HR.lt; have := hyn.out; omega)
 replace HB := HB.trans (B5'.mono HB.size)
 replace HR := HR.later B5'
 replace HN := HN.later B5'
 replace HM := HM.later B5'
 unfold znA at hw5
 clear B5 B5'
 go_wp2_with (first
  | (refine sBk rfl _ _ rfl rfl (M := ndL P3 D3) rfl nodeT H5 rfl rfl rfl ?_; intro w' hk5 hg; replace HR := HR.grown hg (by have := hy5n.out; omega); replace HN := HN.grown hg (by have := hy5n.out; omega); replace HM := HM.grown hg (by have := hy5n.out; omega) H5.bx.ty bNd; replace HB := bGr HB hg HB.size (by have := hy5n.out; omega); replace H5 := hk5; clear hk5 hg)
  | (refine lBk rfl _ rfl rfl nodeT H5 rfl ?_)
  | (refine sBk rfl _ _ rfl rfl (M := ndL P3 D3) rfl nodeT HR rfl rfl rfl ?_; intro w' hk5 hg; replace HM := HM.grown hg (by have := hyn.out; omega) HR.bx.ty bNd; replace HB := bGr HB hg HB.size (by have := hyn.out; omega); replace HR := hk5; clear hk5 hg))
 refine bodyPost_ret (v := ndV P3 D3) (by rw [results_bk Tryz.results17 _ rfl nodeT HR rfl]) rfl ?_
 rw [HQ.out]
 exact ⟨D3, rfl, HM, HB⟩
theorem pDoes_2 (p : Pn) (d : Ad) (hI : Iv p) (_ : p.heard ≤ 10) (a : Ac) (_ : a.n < 18446744073709551616) (hm : Bm a.m) (_ : a.s.size ≤ 140737488351232) (_ : a.xi < 18446744073709551616) (hes : a.m.es.length ≤ 8000000000000) (K : Nat) (w : World) (hK : K ≤ w.heap.size) (hT : Tz w) (hM : NdM K w p d) (hE : Ents w a.m.at_ a.m.es) (hk : a.k = 2) :
 Calls Tryz.prog 17 #[ndV p d, .agg #[.int .i64 a.k, .int .u64 a.n, .int .i64 a.m.kind, .int .u64 a.m.fr, .int .u64 a.m.dst, .int .u64 a.m.term, .int .u64 a.m.i, .int .u64 a.m.lt, .int .u64 a.m.commit, .bool a.m.ok, .slice a.m.at_ a.m.es.length a.m.cap, .string a.m.snap, .string a.s, .int .i64 a.xk, .int .u64 a.xi]] w (NvP K w (doesP p a)) := by
 obtain ⟨W, hW, B0, N0, Z0⟩ := nk_new w p d
 obtain ⟨Wm, xa, hWm, hxa, Bm', HG, Zm⟩ := bk_new W #[.int .i64 a.k, .int .u64 a.n, .int .i64 a.m.kind, .int .u64 a.m.fr, .int .u64 a.m.dst, .int .u64 a.m.term, .int .u64 a.m.i, .int .u64 a.m.lt, .int .u64 a.m.commit, .bool a.m.ok, .slice a.m.at_ a.m.es.length a.m.cap, .string a.m.snap, .string a.s, .int .i64 a.xk, .int .u64 a.xi] 61
 obtain ⟨W1, y, hW1, hy, B1, HR, Z1⟩ := bk_new Wm znA 34
 have Bm2 : Below W.heap.size W Wm := hxa ▸ Bm'
 have B1' : Below Wm.heap.size Wm W1 := hy ▸ B1
 have HB1 := B0.trans (Bm2.mono B0.size)
 have HN := (N0.later Bm2).later B1'
 replace HG := HG.later B1'
 have HB := HB1.trans (B1'.mono HB1.size)
 have hyn := hI_ (show w.heap.size < y ∧ w.heap.size < xa ∧ xa < y by have := Z0.out; have := Zm.out; omega)
 clear B0 N0 B1 Bm' Bm2 B1' HB1
 unfold ndA at hW
 unfold znA at hW1
 have HM := hM.later HB
 have HTZ := hI_ (show ∀ w1, Below w.heap.size w w1 → Tz w1 from fun w1 h => hT.below (h.mono hT.n))
 have HEE := hI_ (show ∀ w1, Below w.heap.size w w1 → Ents w1 a.m.at_ a.m.es from fun w1 h => hE.later h)
 have hvl := hI.vlen
 have hnl := hI.nlen
 have hml := hI.mlen
 have hbd := hI.bd
 have hgl := hI.g.len
 clear hM hE
 have gk1 : (a.k == 1) = false := by rw [hk]; rfl
 have gk2 : (a.k == 2) = true := by rw [hk]; rfl
 obtain ⟨P3, M3, h3⟩ : ∃ P3 M3, hearP p a.m = (P3, M3) := ⟨_, _, rfl⟩
 have HQ := hI_ (show doesP p a = P3 by unfold doesP; rw [if_neg (by omega), if_pos hk, h3])
 have HCA := hI_ (show ∀ w1, K ≤ w1.heap.size → NdM K w1 p d → Below w.heap.size w w1 → Calls Tryz.prog 19 #[ndV p d, mgV a.m] w1 (NmP K w1 (P3, M3)) from fun w1 h1 h2 hbw => by
  have h := pHear_any p d hbd a.m hm (by omega) (by omega) (by omega) (by omega) K w1 h1 h2 (HEE.out w1 hbw)
  rw [h3] at h; exact h)
 clear h3 hk
 go_enter Tryz.func17, Tryz.ntmps17
 go_wp2_with (first
  | (refine lCc rfl _ rfl rfl (ocA rfl) (by assumption) rfl ?_)
  | (refine lBk rfl _ rfl rfl nodeT HN rfl ?_)
  | (refine lSb rfl _ rfl rfl [.int .i64 a.m.kind, .int .u64 a.m.fr, .int .u64 a.m.dst, .int .u64 a.m.term, .int .u64 a.m.i, .int .u64 a.m.lt, .int .u64 a.m.commit, .bool a.m.ok, .slice a.m.at_ a.m.es.length a.m.cap, .string a.m.snap] messT HG rfl rfl ?_))
 refine (HCA.out _ (Nat.le_trans hK HB.size) HM HB).mono ?_
 rintro e w2 ⟨D3, v, O, rfl, hm3, _, _, hb⟩
 replace HB := HB.trans (hb.mono HB.size)
 replace HR := HR.later hb
 replace HN := HN.later hb
 replace HG := HG.later hb
 replace HM := hm3
 clear hb hm3
 simp only at HM
 obtain ⟨w5, y5, hw5, hy5, B5, H5, Z5⟩ := bk_new w2 znA 34
 have B5' : Below w2.heap.size w2 w5 := hy5 ▸ B5
 have hy5n := hI_ (show w.heap.size < y5 ∧ xa < y5 ∧ y < y5 ∧ K ≤ y5 by have h1 := HN.lt; have h2 := HG.lt; have h3 := HR.lt; have := hyn.out; omega)
 replace HB := HB.trans (B5'.mono HB.size)
 replace HR := HR.later B5'
 replace HN := HN.later B5'
 replace HM := HM.later B5'
 unfold znA at hw5
 clear B5 B5'
 go_wp2_with (first
  | (refine sBk rfl _ _ rfl rfl (M := ndL P3 D3) rfl nodeT H5 rfl rfl rfl ?_; intro w' hk5 hg; replace HR := HR.grown hg (by have := hy5n.out; omega); replace HN := HN.grown hg (by have := hy5n.out; omega); replace HM := HM.grown hg (by have := hy5n.out; omega) H5.bx.ty bNd; replace HB := bGr HB hg HB.size (by have := hy5n.out; omega); replace H5 := hk5; clear hk5 hg)
  | (refine lBk rfl _ rfl rfl nodeT H5 rfl ?_)
  | (refine sBk rfl _ _ rfl rfl (M := ndL P3 D3) rfl nodeT HR rfl rfl rfl ?_; intro w' hk5 hg; replace HM := HM.grown hg (by have := hyn.out; omega) HR.bx.ty bNd; replace HB := bGr HB hg HB.size (by have := hyn.out; omega); replace HR := hk5; clear hk5 hg))
 refine bodyPost_ret (v := ndV P3 D3) (by rw [results_bk Tryz.results17 _ rfl nodeT HR rfl]) rfl ?_
 rw [HQ.out]
 exact ⟨D3, rfl, HM, HB⟩

theorem pDoes_5a (p : Pn) (d : Ad) (hI : Iv p) (_ : p.heard ≤ 10) (a : Ac) (hn : a.n < 18446744073709551616) (_ : Bm a.m) (hs : a.s.size ≤ 140737488351232) (_ : a.xi < 18446744073709551616) (_ : a.m.es.length ≤ 8000000000000) (K : Nat) (w : World) (hK : K ≤ w.heap.size) (hT : Tz w) (hM : NdM K w p d) (hE : Ents w a.m.at_ a.m.es) (hk : a.k = 5) (h0 : cmpX p a.n a.s = 0) :
 Calls Tryz.prog 17 #[ndV p d, .agg #[.int .i64 a.k, .int .u64 a.n, .int .i64 a.m.kind, .int .u64 a.m.fr, .int .u64 a.m.dst, .int .u64 a.m.term, .int .u64 a.m.i, .int .u64 a.m.lt, .int .u64 a.m.commit, .bool a.m.ok, .slice a.m.at_ a.m.es.length a.m.cap, .string a.m.snap, .string a.s, .int .i64 a.xk, .int .u64 a.xi]] w (NvP K w (doesP p a)) := by
 obtain ⟨W, hW, B0, N0, Z0⟩ := nk_new w p d
 obtain ⟨Wm, xa, hWm, hxa, Bm', HG, Zm⟩ := bk_new W #[.int .i64 a.k, .int .u64 a.n, .int .i64 a.m.kind, .int .u64 a.m.fr, .int .u64 a.m.dst, .int .u64 a.m.term, .int .u64 a.m.i, .int .u64 a.m.lt, .int .u64 a.m.commit, .bool a.m.ok, .slice a.m.at_ a.m.es.length a.m.cap, .string a.m.snap, .string a.s, .int .i64 a.xk, .int .u64 a.xi] 61
 obtain ⟨W1, y, hW1, hy, B1, HR, Z1⟩ := bk_new Wm znA 34
 have Bm2 : Below W.heap.size W Wm := hxa ▸ Bm'
 have B1' : Below Wm.heap.size Wm W1 := hy ▸ B1
 have HB1 := B0.trans (Bm2.mono B0.size)
 have HN := (N0.later Bm2).later B1'
 replace HG := HG.later B1'
 have HB := HB1.trans (B1'.mono HB1.size)
 have hyn := hI_ (show w.heap.size < y ∧ w.heap.size < xa ∧ xa < y by have := Z0.out; have := Zm.out; omega)
 clear B0 N0 B1 Bm' Bm2 B1' HB1
 unfold ndA at hW
 unfold znA at hW1
 have HM := hM.later HB
 have HTZ := hI_ (show ∀ w1, Below w.heap.size w w1 → Tz w1 from fun w1 h => hT.below (h.mono hT.n))
 have HEE := hI_ (show ∀ w1, Below w.heap.size w w1 → Ents w1 a.m.at_ a.m.es from fun w1 h => hE.later h)
 have hvl := hI.vlen
 have hnl := hI.nlen
 have hml := hI.mlen
 have hbd := hI.bd
 have hgl := hI.g.len
 clear hM hE
 have gk1 : (a.k == 1) = false := by rw [hk]; rfl
 have gk2 : (a.k == 2) = false := by rw [hk]; rfl
 have gk3 : (a.k == 3) = false := by rw [hk]; rfl
 have gk4 : (a.k == 4) = false := by rw [hk]; rfl
 have gk5 : (a.k == 5) = true := by rw [hk]; rfl
 obtain ⟨P3, h3⟩ : ∃ P3, cmpP p a.n a.s = P3 := ⟨_, rfl⟩
 have HQ := hI_ (show doesP p a = P3 by unfold doesP; rw [if_neg (by omega), if_neg (by omega), if_neg (by omega), if_neg (by omega), if_pos hk, if_pos h0, h3])
 have HCA := hI_ (show ∀ w1, K ≤ w1.heap.size → NdM K w1 p d → Below w.heap.size w w1 → Calls Tryz.prog 14 #[ndV p d, .int .u64 a.n, .string a.s] w1 (CxP K w1 0 P3) from fun w1 h1 h2 hbw => by
  have h := pCompact8_any p d hbd a.n hn a.s hs K w1 h1 (HTZ.out w1 hbw) h2
  rw [h3, h0] at h; exact h)
 clear h3 hk h0
 go_enter Tryz.func17, Tryz.ntmps17
 go_wp2_with (first
  | (refine lCc rfl _ rfl rfl (ocA rfl) (by assumption) rfl ?_)
  | (refine lBk rfl _ rfl rfl nodeT HN rfl ?_))
 refine (HCA.out _ (Nat.le_trans hK HB.size) HM HB).mono ?_
 rintro e w2 ho
 unfold CxP at ho
 rw [if_pos rfl] at ho
 obtain ⟨D3, rfl, hm3, hb⟩ := ho
 replace HB := HB.trans (hb.mono HB.size)
 replace HR := HR.later hb
 replace HN := HN.later hb
 replace HG := HG.later hb
 replace HM := hm3
 clear hb hm3
 obtain ⟨w5, y5, hw5, hy5, B5, H5, Z5⟩ := bk_new w2 znA 34
 have B5' : Below w2.heap.size w2 w5 := hy5 ▸ B5
 have hy5n := hI_ (show w.heap.size < y5 ∧ xa < y5 ∧ y < y5 ∧ K ≤ y5 by have h1 := HN.lt; have h2 := HG.lt; have h3 := HR.lt; have := hyn.out; omega)
 replace HB := HB.trans (B5'.mono HB.size)
 replace HR := HR.later B5'
 replace HN := HN.later B5'
 replace HM := HM.later B5'
 unfold znA at hw5
 clear B5 B5'
 go_wp2_with (first
  | (refine sBk rfl _ _ rfl rfl (M := ndL P3 D3) rfl nodeT H5 rfl rfl rfl ?_; intro w' hk5 hg; replace HR := HR.grown hg (by have := hy5n.out; omega); replace HN := HN.grown hg (by have := hy5n.out; omega); replace HM := HM.grown hg (by have := hy5n.out; omega) H5.bx.ty bNd; replace HB := bGr HB hg HB.size (by have := hy5n.out; omega); replace H5 := hk5; clear hk5 hg)
  | (refine lBk rfl _ rfl rfl nodeT H5 rfl ?_)
  | (refine sBk rfl _ _ rfl rfl (M := ndL P3 D3) rfl nodeT HR rfl rfl rfl ?_; intro w' hk5 hg; replace HM := HM.grown hg (by have := hyn.out; omega) HR.bx.ty bNd; replace HB := bGr HB hg HB.size (by have := hyn.out; omega); replace HR := hk5; clear hk5 hg))
 refine bodyPost_ret (v := ndV P3 D3) (by rw [results_bk Tryz.results17 _ rfl nodeT HR rfl]) rfl ?_
 rw [HQ.out]
 exact ⟨D3, rfl, HM, HB⟩
theorem pDoes_5b (p : Pn) (d : Ad) (hI : Iv p) (_ : p.heard ≤ 10) (a : Ac) (hn : a.n < 18446744073709551616) (_ : Bm a.m) (hs : a.s.size ≤ 140737488351232) (_ : a.xi < 18446744073709551616) (_ : a.m.es.length ≤ 8000000000000) (K : Nat) (w : World) (hK : K ≤ w.heap.size) (hT : Tz w) (hM : NdM K w p d) (hE : Ents w a.m.at_ a.m.es) (hk : a.k = 5) (h0 : ¬ cmpX p a.n a.s = 0) :
 Calls Tryz.prog 17 #[ndV p d, .agg #[.int .i64 a.k, .int .u64 a.n, .int .i64 a.m.kind, .int .u64 a.m.fr, .int .u64 a.m.dst, .int .u64 a.m.term, .int .u64 a.m.i, .int .u64 a.m.lt, .int .u64 a.m.commit, .bool a.m.ok, .slice a.m.at_ a.m.es.length a.m.cap, .string a.m.snap, .string a.s, .int .i64 a.xk, .int .u64 a.xi]] w (NvP K w (doesP p a)) := by
 obtain ⟨W, hW, B0, N0, Z0⟩ := nk_new w p d
 obtain ⟨Wm, xa, hWm, hxa, Bm', HG, Zm⟩ := bk_new W #[.int .i64 a.k, .int .u64 a.n, .int .i64 a.m.kind, .int .u64 a.m.fr, .int .u64 a.m.dst, .int .u64 a.m.term, .int .u64 a.m.i, .int .u64 a.m.lt, .int .u64 a.m.commit, .bool a.m.ok, .slice a.m.at_ a.m.es.length a.m.cap, .string a.m.snap, .string a.s, .int .i64 a.xk, .int .u64 a.xi] 61
 obtain ⟨W1, y, hW1, hy, B1, HR, Z1⟩ := bk_new Wm znA 34
 have Bm2 : Below W.heap.size W Wm := hxa ▸ Bm'
 have B1' : Below Wm.heap.size Wm W1 := hy ▸ B1
 have HB1 := B0.trans (Bm2.mono B0.size)
 have HN := (N0.later Bm2).later B1'
 replace HG := HG.later B1'
 have HB := HB1.trans (B1'.mono HB1.size)
 have hyn := hI_ (show w.heap.size < y ∧ w.heap.size < xa ∧ xa < y by have := Z0.out; have := Zm.out; omega)
 clear B0 N0 B1 Bm' Bm2 B1' HB1
 unfold ndA at hW
 unfold znA at hW1
 have HM := hM.later HB
 have HTZ := hI_ (show ∀ w1, Below w.heap.size w w1 → Tz w1 from fun w1 h => hT.below (h.mono hT.n))
 have HEE := hI_ (show ∀ w1, Below w.heap.size w w1 → Ents w1 a.m.at_ a.m.es from fun w1 h => hE.later h)
 have hvl := hI.vlen
 have hnl := hI.nlen
 have hml := hI.mlen
 have hbd := hI.bd
 have hgl := hI.g.len
 clear hM hE
 have gk1 : (a.k == 1) = false := by rw [hk]; rfl
 have gk2 : (a.k == 2) = false := by rw [hk]; rfl
 have gk3 : (a.k == 3) = false := by rw [hk]; rfl
 have gk4 : (a.k == 4) = false := by rw [hk]; rfl
 have gk5 : (a.k == 5) = true := by rw [hk]; rfl
 have HQ := hI_ (show doesP p a = p by unfold doesP; rw [if_neg (by omega), if_neg (by omega), if_neg (by omega), if_neg (by omega), if_pos hk, if_neg h0])
 obtain ⟨x, hx⟩ : ∃ x, cmpX p a.n a.s = x := ⟨_, rfl⟩
 have HCA := hI_ (show ∀ w1, K ≤ w1.heap.size → NdM K w1 p d → Below w.heap.size w w1 → Calls Tryz.prog 14 #[ndV p d, .int .u64 a.n, .string a.s] w1 (CxP K w1 x (cmpP p a.n a.s)) from fun w1 h1 h2 hbw => by
  have h := pCompact8_any p d hbd a.n hn a.s hs K w1 h1 (HTZ.out w1 hbw) h2
  rw [hx] at h; exact h)
 rw [hx] at h0
 have g0 : (x == 0) = false := by simpa using h0
 have H0 := hI_ h0
 clear hx hk h0
 go_enter Tryz.func17, Tryz.ntmps17
 go_wp2_with (first
  | (refine lCc rfl _ rfl rfl (ocA rfl) (by assumption) rfl ?_)
  | (refine lBk rfl _ rfl rfl nodeT HN rfl ?_))
 refine (HCA.out _ (Nat.le_trans hK HB.size) HM HB).mono ?_
 rintro e w2 ho
 unfold CxP at ho
 rw [if_neg H0.out] at ho
 obtain ⟨rfl, hb⟩ := ho
 replace HB := HB.trans (hb.mono HB.size)
 replace HR := HR.later hb
 replace HN := HN.later hb
 replace HG := HG.later hb
 replace HM := HM.later hb
 clear hb
 obtain ⟨w5, y5, hw5, hy5, B5, H5, Z5⟩ := bk_new w2 znA 34
 have B5' : Below w2.heap.size w2 w5 := hy5 ▸ B5
 have hy5n := hI_ (show w.heap.size < y5 ∧ xa < y5 ∧ y < y5 ∧ K ≤ y5 by have h1 := HN.lt; have h2 := HG.lt; have h3 := HR.lt; have := hyn.out; omega)
 replace HB := HB.trans (B5'.mono HB.size)
 replace HR := HR.later B5'
 replace HN := HN.later B5'
 replace HM := HM.later B5'
 unfold znA at hw5
 clear B5 B5'
 go_wp2_with (first
  | (refine sBk rfl _ _ rfl rfl (M := znA.toList) rfl nodeT H5 rfl rfl rfl ?_; intro w' hk5 hg; replace HR := HR.grown hg (by have := hy5n.out; omega); replace HN := HN.grown hg (by have := hy5n.out; omega); replace HM := HM.grown hg (by have := hy5n.out; omega) H5.bx.ty bNd; replace HB := bGr HB hg HB.size (by have := hy5n.out; omega); replace H5 := hk5; clear hk5 hg)
  | (refine lBk rfl _ rfl rfl nodeT HN rfl ?_)
  | (refine sBk rfl _ _ rfl rfl (M := ndL p d) rfl nodeT HR rfl rfl rfl ?_; intro w' hk5 hg; replace HM := HM.grown hg (by have := hyn.out; omega) HR.bx.ty bNd; replace HB := bGr HB hg HB.size (by have := hyn.out; omega); replace HR := hk5; clear hk5 hg))
 refine bodyPost_ret (v := ndV p d) (by rw [results_bk Tryz.results17 _ rfl nodeT HR rfl]) rfl ?_
 rw [HQ.out]
 exact ⟨d, rfl, HM, HB⟩
theorem pDoes_0 (p : Pn) (d : Ad) (hI : Iv p) (_ : p.heard ≤ 10) (a : Ac) (_ : a.n < 18446744073709551616) (_ : Bm a.m) (_ : a.s.size ≤ 140737488351232) (_ : a.xi < 18446744073709551616) (_ : a.m.es.length ≤ 8000000000000) (K : Nat) (w : World) (hK : K ≤ w.heap.size) (hT : Tz w) (hM : NdM K w p d) (hE : Ents w a.m.at_ a.m.es) (hk1 : ¬ a.k = 1) (hk2 : ¬ a.k = 2) (hk3 : ¬ a.k = 3) (hk4 : ¬ a.k = 4) (hk5 : ¬ a.k = 5) :
 Calls Tryz.prog 17 #[ndV p d, .agg #[.int .i64 a.k, .int .u64 a.n, .int .i64 a.m.kind, .int .u64 a.m.fr, .int .u64 a.m.dst, .int .u64 a.m.term, .int .u64 a.m.i, .int .u64 a.m.lt, .int .u64 a.m.commit, .bool a.m.ok, .slice a.m.at_ a.m.es.length a.m.cap, .string a.m.snap, .string a.s, .int .i64 a.xk, .int .u64 a.xi]] w (NvP K w (doesP p a)) := by
 obtain ⟨W, hW, B0, N0, Z0⟩ := nk_new w p d
 obtain ⟨Wm, xa, hWm, hxa, Bm', HG, Zm⟩ := bk_new W #[.int .i64 a.k, .int .u64 a.n, .int .i64 a.m.kind, .int .u64 a.m.fr, .int .u64 a.m.dst, .int .u64 a.m.term, .int .u64 a.m.i, .int .u64 a.m.lt, .int .u64 a.m.commit, .bool a.m.ok, .slice a.m.at_ a.m.es.length a.m.cap, .string a.m.snap, .string a.s, .int .i64 a.xk, .int .u64 a.xi] 61
 obtain ⟨W1, y, hW1, hy, B1, HR, Z1⟩ := bk_new Wm znA 34
 have Bm2 : Below W.heap.size W Wm := hxa ▸ Bm'
 have B1' : Below Wm.heap.size Wm W1 := hy ▸ B1
 have HB1 := B0.trans (Bm2.mono B0.size)
 have HN := (N0.later Bm2).later B1'
 replace HG := HG.later B1'
 have HB := HB1.trans (B1'.mono HB1.size)
 have hyn := hI_ (show w.heap.size < y ∧ w.heap.size < xa ∧ xa < y by have := Z0.out; have := Zm.out; omega)
 clear B0 N0 B1 Bm' Bm2 B1' HB1
 unfold ndA at hW
 unfold znA at hW1
 have HM := hM.later HB
 have HTZ := hI_ (show ∀ w1, Below w.heap.size w w1 → Tz w1 from fun w1 h => hT.below (h.mono hT.n))
 have HEE := hI_ (show ∀ w1, Below w.heap.size w w1 → Ents w1 a.m.at_ a.m.es from fun w1 h => hE.later h)
 have hvl := hI.vlen
 have hnl := hI.nlen
 have hml := hI.mlen
 have hbd := hI.bd
 have hgl := hI.g.len
 clear hM hE
 have gk1 : (a.k == 1) = false := by simpa using hk1
 have gk2 : (a.k == 2) = false := by simpa using hk2
 have gk3 : (a.k == 3) = false := by simpa using hk3
 have gk4 : (a.k == 4) = false := by simpa using hk4
 have gk5 : (a.k == 5) = false := by simpa using hk5
 have HQ := hI_ (show doesP p a = p by unfold doesP; rw [if_neg hk1, if_neg hk2, if_neg hk3, if_neg hk4, if_neg hk5])
 clear hk1 hk2 hk3 hk4 hk5
 go_enter Tryz.func17, Tryz.ntmps17
 go_wp2_with (first
  | (refine lCc rfl _ rfl rfl (ocA rfl) (by assumption) rfl ?_)
  | (refine lBk rfl _ rfl rfl nodeT HN rfl ?_)
  | (refine sBk rfl _ _ rfl rfl (M := ndL p d) rfl nodeT HR rfl rfl rfl ?_; intro w' hk5 hg; replace HM := HM.grown hg (by have := hyn.out; omega) HR.bx.ty bNd; replace HB := bGr HB hg HB.size (by have := hyn.out; omega); replace HR := hk5; clear hk5 hg))
 refine bodyPost_ret (v := ndV p d) (by rw [results_bk Tryz.results17 _ rfl nodeT HR rfl]) rfl ?_
 rw [HQ.out]
 exact ⟨d, rfl, HM, HB⟩
end Go.Proofs.YtdcpiaoadbbdoaaGreatDoor
