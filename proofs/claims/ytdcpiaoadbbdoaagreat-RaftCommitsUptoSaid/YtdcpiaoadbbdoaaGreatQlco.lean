/- RaftCommits: a leader commits only what a majority has, of its own term. -/
import Derived.Test.YtdcpiaoadbbdoaaGreatBulk
import Derived.Test.YtdcpiaoadbbdoaaGreatZco
import Derived.Test.YtdcpiaoadbbdoaaGreatQhe
import Derived.Test.YtdcpiaoadbbdoaaGreatRo
import Derived.Test.YtdcpiaoadbbdoaaGreatQlz
import Derived.Test.YtdcpiaoadbbdoaaGreatHn
set_option maxRecDepth 100000
set_option maxHeartbeats 16000000
namespace Go.Proofs.YtdcpiaoadbbdoaaGreat
open Go.RowKit

def sndB (p : Pn) : Bool := mayB p.c.V p.c.L && decide (p.g.base ≤ 4611686018427387903)
theorem sound_any (p : Pn) (d : Ad) (hv : p.c.V.length ≤ 140737488351232) (hl : p.c.L.length ≤ 140737488351232) (K : Nat) (w : World) (hM : NdM K w p d) : Calls Tryz.prog 7 #[ndV p d] w fun e w' => e = .returned (.bool (sndB p)) ∧ Below w.heap.size w w' := by
 obtain ⟨W, hW, HB, HN, Z0⟩ := nk_new w p d
 unfold ndA at hW
 have HM := hM.later HB
 obtain ⟨sb, hsb⟩ : ∃ sb, sndB p = sb := ⟨_, rfl⟩
 have HS := hI_ (show sb = (mayB p.c.V p.c.L && decide (p.g.base ≤ 4611686018427387903)) from hsb.symm)
 rw [hsb]
 clear hsb
 go_enter Tryz.func7, Tryz.ntmps7
 go_wp2_with (first
  | (refine lSb rfl _ rfl rfl [.slice d.v.a p.c.V.length d.v.c, .slice d.l.a p.c.L.length d.l.c] confT HN rfl rfl ?_))
 refine (rMay_any _ _ _ _ _ _ p.c.V p.c.L rfl hv rfl hl _ HM.v.us HM.l).mono ?_
 rintro e w2 ⟨rfl, hb⟩
 obtain ⟨mb, hmb⟩ : ∃ mb, mayB p.c.V p.c.L = mb := ⟨_, rfl⟩
 rw [hmb] at HS ⊢
 replace HN := HN.later hb
 replace HB := HB.trans (hb.mono HB.size)
 clear hb hmb HM
 have c5 := HN.bx.c 5 _ rfl
 cases mb
 case false =>
  obtain rfl : sb = false := HS.out
  go_wp2_with fail
  go_ret
  exact ⟨rfl, HB⟩
 case true =>
  by_cases h : p.g.base ≤ 4611686018427387903
  · have g1 : (p.g.base : Int) ≤ 4611686018427387903 := by omega
    have g2 : decide ((p.g.base : Int) ≤ 4611686018427387903) = true := by simp; omega
    obtain rfl : sb = true := by rw [HS.out]; simpa using h
    go_wp2_with fail
    go_ret
    exact ⟨by simp, HB⟩
  · have g1 : ¬ (p.g.base : Int) ≤ 4611686018427387903 := by omega
    have g2 : decide ((p.g.base : Int) ≤ 4611686018427387903) = false := by simp; omega
    obtain rfl : sb = false := by rw [HS.out]; simpa using h
    go_wp2_with fail
    go_ret
    exact ⟨by simp, HB⟩
theorem law_RaftCommits (p : Pn) (d : Ad) (m : Mg) (hv : p.c.V.length ≤ 140737488351232) (hl : p.c.L.length ≤ 140737488351232) (hBd : sndB p = true → Bd p) (hm : Bm m) (hes : p.g.L.length + m.es.length ≤ 9000000000000) (hvb : p.voices.length * 16 ≤ 140737488352900) (hnx : p.next.length * 16 ≤ 140737488352900) (hmt : p.mat.length * 16 ≤ 140737488352000) (w : World) (hM : NdM w.heap.size w p d) (hE : Ents w m.at_ m.es) :
 Calls Tryz.prog 5 #[ndV p d, mgV m] w (Yes w) := by
 obtain ⟨W, hW, B0, N0, Z0⟩ := nk_new w p d
 obtain ⟨Wm, ym, hWm, hym, Bm, HG, Zm⟩ := bk_new W (mgA m) 52
 have Bm' : Below W.heap.size W Wm := hym ▸ Bm
 have HB := B0.trans (Bm'.mono B0.size)
 have HN := N0.later Bm'
 have HMM := hI_ (show ∀ w1, Below w.heap.size w w1 → NdM w.heap.size w1 p d from fun w1 h => hM.later h)
 have HEE := hI_ (show ∀ w1, Below w.heap.size w w1 → Ents w1 m.at_ m.es from fun w1 h => hE.later h)
 obtain ⟨sb, hsb⟩ : ∃ sb, sndB p = sb := ⟨_, rfl⟩
 obtain ⟨Q, M3, hQ⟩ : ∃ Q M3, hearP p m = (Q, M3) := ⟨_, _, rfl⟩
 have HSB := hI_ hsb
 have HQ := hI_ hQ
 clear B0 N0 Bm Bm' hM hE hsb hQ
 unfold ndA at hW
 unfold mgA at hWm
 go_enter Tryz.func5, Tryz.ntmps5
 go_wp2_with fail
 refine (pShown_any _).mono ?_
 rintro e w1 ⟨rfl, hb⟩
 replace HB := HB.trans (hb.mono HB.size)
 replace HN := HN.later hb
 replace HG := HG.later hb
 clear hb
 go_wp2_with (first
  | (refine lBk rfl _ rfl rfl nodeT HN rfl ?_))
 refine (sound_any p d hv hl _ _ (HMM.out _ HB)).mono ?_
 rintro e w2 ⟨rfl, hb⟩
 rw [HSB.out]
 replace HB := HB.trans (hb.mono HB.size)
 replace HN := HN.later hb
 replace HG := HG.later hb
 clear hb
 cases sb
 case false =>
  go_wp2_with fail
  go_ret
  exact ⟨rfl, HB⟩
 case true =>
  have hbd := hBd HSB.out
  go_wp2_with (first
   | (refine lBk rfl _ rfl rfl nodeT HN rfl ?_)
   | (refine lBk rfl _ rfl rfl messT HG rfl ?_))
  refine (pHear_any p d hbd m hm hes hvb hnx (by omega) w.heap.size _ HB.size (HMM.out _ HB) (HEE.out _ HB)).mono ?_
  rw [HQ.out]
  rintro e w3 ⟨d3, v, O, rfl, hm3, hC, _, hb⟩
  simp only at hm3
  obtain ⟨oa, oc, rfl, _, _, _⟩ := hC.form
  replace HB := HB.trans (hb.mono HB.size)
  replace HN := HN.later hb
  clear hb hC HG
  obtain ⟨w4, x7, hw4, hx7, B4, H7, Z7⟩ := bk_new w3 znA 34
  have B4' : Below w3.heap.size w3 w4 := hx7 ▸ B4
  have hx := hI_ (show w.heap.size ≤ x7 ∧ w.heap.size < x7 by have := HN.lt; have := HB.size; have := HMM; omega)
  replace HN := HN.later B4'
  replace hm3 := hm3.later B4'
  replace HB := HB.trans (B4'.mono HB.size)
  unfold znA at hw4
  clear B4 B4'
  go_upto_region 6 with (first
   | (refine sBk rfl _ _ rfl rfl (M := ndL Q d3) rfl nodeT H7 rfl rfl rfl ?_; intro w' hk5 hg; replace HN := HN.grown hg (by have := hx.out; omega); replace hm3 := hm3.grown hg hx.out.1 H7.bx.ty bNd; replace HB := bGr HB hg HB.size hx.out.1; replace H7 := hk5; clear hk5 hg))
  clear hw4
  have n9 := HN.bx.c 9 _ rfl
  have n11 := HN.bx.c 11 _ rfl
  have n3 := HN.bx.c 3 _ rfl
  have k9 := H7.bx.c 9 _ rfl
  have k11 := H7.bx.c 11 _ rfl
  have k3 := H7.bx.c 3 _ rfl
  by_cases h1 : p.role = 3
  case neg =>
   have g1 : (p.role == 3) = false := by simpa using h1
   have g1' : (p.role != 3) = true := by simpa using h1
   clear h1
   go_wp2_with fail
   go_ret
   exact ⟨rfl, HB⟩
  have g1 : (p.role == 3) = true := by rw [h1]; rfl
  have g1' : (p.role != 3) = false := by rw [h1]; rfl
  by_cases h2 : Q.role = 3
  case neg =>
   have g2 : (Q.role == 3) = false := by simpa using h2
   have g2' : (Q.role != 3) = true := by simpa using h2
   clear h1 h2
   go_wp2_with fail
   go_ret
   exact ⟨rfl, HB⟩
  have g2 : (Q.role == 3) = true := by rw [h2]; rfl
  have g2' : (Q.role != 3) = false := by rw [h2]; rfl
  by_cases h3 : Q.commit = p.commit
  case pos =>
   have g3 : ((Q.commit : Int) == (p.commit : Int)) = true := by rw [h3]; simp
   clear h1 h2 h3
   go_wp2_with fail
   go_ret
   exact ⟨rfl, HB⟩
  have g3 : ((Q.commit : Int) == (p.commit : Int)) = false := by simp; omega
  by_cases h4 : Q.term = p.term
  case neg =>
   have g4 : ((Q.term : Int) == (p.term : Int)) = false := by simp; omega
   have g4' : ((Q.term : Int) != (p.term : Int)) = true := by simp; omega
   clear h1 h2 h3 h4
   go_wp2_with fail
   go_ret
   exact ⟨rfl, HB⟩
  have g4 : ((Q.term : Int) == (p.term : Int)) = true := by rw [h4]; simp
  have g4' : ((Q.term : Int) != (p.term : Int)) = false := by rw [h4]; simp
  have hcm : Cm p Q := by
   have h := kq_hear m h1
   rw [HQ.out] at h
   rcases h h2 with h | h
   · exact absurd h h3
   · exact h
  have HCM := hI_ hcm
  have hmay : mayB Q.conf.V Q.conf.L = true := conf_may (by rw [hcm.c]; exact hbd.may)
  have HMOST := hI_ (cm_most hcm hmay)
  have hV7 := (may_small hmay).1
  have HMT := hI_ (show Q.mat.length ≤ 140737488351232 by have := hcm.mat; omega)
  clear h1 h2 h3 h4 hcm hmay
  go_wp2_with (first
   | (refine lBk rfl _ rfl rfl nodeT H7 rfl ?_))
  clear g1 g1' g2 g2' g3 g4 g4' n9 n3 k9
  refine (pConfC_any Q d3 (by rw [HCM.out.g]; exact hbd.ents) (by rw [HCM.out.g]; exact hbd.data) (by rw [HCM.out.g]; exact hbd.snap) w.heap.size _ hm3).mono ?_
  rintro e w5 ⟨s1, s2, rfl, hV, hU, hcap, hb⟩
  replace HB := HB.trans (hb.mono HB.size)
  replace HN := HN.later hb
  replace H7 := H7.later hb
  replace hm3 := hm3.later hb
  clear hb k3 k11 n11
  obtain ⟨wL, x10, hwL, hx10, BL, HC, ZL⟩ := bk_new w5 #[.slice s1.a Q.conf.V.length s1.c, .slice s2.a Q.conf.L.length s2.c] 25
  have BL' : Below w5.heap.size w5 wL := hx10 ▸ BL
  replace HB := HB.trans (BL'.mono HB.size)
  replace HN := HN.later BL'
  replace H7 := H7.later BL'
  replace hm3 := hm3.later BL'
  replace hV := hV.later BL'
  have HBL := hI_ HB
  have HV := hI_ (show ∀ w1, Below wL.heap.size wL w1 → Us w1 s1.a Q.conf.V from fun w1 h => hV.later h)
  have HMA := hI_ (show ∀ w1, Below wL.heap.size wL w1 → Ms w1 d3.m.a Q.mat from fun w1 h => (hm3.later h).m)
  have HES := hI_ (show ∀ w1, Below wL.heap.size wL w1 → Ents w1 d3.e.a Q.g.L from fun w1 h => (hm3.later h).e)
  have H7L := hI_ (show ∀ w1, Below wL.heap.size wL w1 → Bk w1 x7 34 (ndL Q d3) from fun w1 h => H7.later h)
  have HNL := hI_ (show ∀ w1, Below wL.heap.size wL w1 → Bk w1 (w.heap.size) 34 (ndL p d) from fun w1 h => HN.later h)
  have HCL := hI_ (show ∀ w1, Below wL.heap.size wL w1 → Bk w1 x10 25 [.slice s1.a Q.conf.V.length s1.c, .slice s2.a Q.conf.L.length s2.c] from fun w1 h => HC.later h)
  have HR0 := hI_ (Below.refl wL.heap.size wL)
  have HCAP := hI_ hcap
  clear hcap BL BL' hV hU hm3 H7 HN HC HB Z0 Zm Z7 ZL
  go_wp2_with fail
  go_loopw [9, 11, 12, 13] (fun v i _ _ wr => ∃ (k q : Nat) (O : List Nat) (a5 : Option Addr) (c5 : Nat), k ≤ Q.conf.V.length ∧ i = .int .i64 k ∧ v = .slice a5 q c5 ∧ O.length = q ∧ q ≤ k ∧ CqU wL.heap.size wr (.slice a5 q c5) O ∧ O = hasL Q.commit Q.mat (Q.conf.V.take k) ∧ Below wL.heap.size wL wr) (fun _ i _ _ _ => Q.conf.V.length - (intOf i).toNat)
  case atStart => exact ⟨0, 0, [], none, 0, Nat.zero_le _, rfl, rfl, rfl, Nat.zero_le _, CqU.nil _ _ none, rfl, HR0.out⟩
  case round =>
   obtain ⟨k, q, O, a5, c5, hk, rfl, rfl, hq, hqk, hC, hO, hB⟩ := hrel
   have HQL := hI_ hq
   have HCq := hI_ hC
   have HO := hI_ hO
   have HBR := hI_ hB
   have H7 := H7L.out _ hB
   have HC := HCL.out _ hB
   have c0 := HC.bx.c 0 _ rfl
   have m14 := H7.bx.c 14 _ rfl
   have m11 := H7.bx.c 11 _ rfl
   clear hq hC hO
   by_cases hlt : k < Q.conf.V.length
   · obtain ⟨x, hx⟩ : ∃ x, Q.conf.V[k]? = some x := ⟨_, List.getElem?_eq_getElem hlt⟩
     have i0 : (0 : Int) ≤ (k : Int) := by omega
     have i1 : (k : Int) < (Q.conf.V.length : Int) := by omega
     obtain ⟨b, off, e1, hb, p0⟩ := HV.out _ hB k x hx
     have HE1 := hI_ e1
     have HX := hI_ hx
     obtain ⟨pm, hpm⟩ : ∃ pm, markN x Q.mat = pm := ⟨_, rfl⟩
     have HP := hI_ hpm
     obtain ⟨pv, pb⟩ := pm
     have HMK := hI_ (show ∀ q, Calls Tryz.prog 16 #[.slice d3.m.a Q.mat.length d3.m.c, .int .u64 x] (wr.drewN q) fun e w' => e = .returned (.tuple #[.int .u64 (pv : Nat), .bool pb]) ∧ w' = wr.drewN q from fun q => (rMark_any x _ _ _ Q.mat rfl HMT.out _ (HMA.out _ (below_drewN HBR.out q))).mono fun e w' h => ⟨by rw [h.1, HP.out], h.2.symm⟩)
     rw [e1] at c0
     clear hx hB hpm e1 H7 HC
     go_wp2_with fail
     go_quiet ((go_at_call 16; exact Calls.quiet_of_same (HMK.out _)))
     have HB6 : Below wL.heap.size wL (wr.drewN nq) := below_drewN HBR.out nq
     have hC6 : CqU wL.heap.size (wr.drewN nq) (.slice a5 q c5) O := HCq.out.later (below_drewN (Below.refl _ _) nq)
     generalize wr.drewN nq = w6 at *
     have H7 := H7L.out _ HB6
     have HC := HCL.out _ HB6
     have c0 := HC.bx.c 0 _ rfl
     rw [HE1.out] at c0
     have m11 := H7.bx.c 11 _ rfl
     obtain ⟨b', off', e', hb', p0⟩ := HV.out _ HB6 k x HX.out
     rw [HE1.out] at e'
     cases e'
     have HC6 := hI_ hC6
     clear hC6 H7 HC
     by_cases hge : Q.commit ≤ pv
     · have gg : (Q.commit : Int) ≤ (pv : Int) := by omega
       have HT := hI_ (show O ++ [x] = hasL Q.commit Q.mat (Q.conf.V.take (k + 1)) by rw [take_snocH HX.out, HO.out]; simp [hasL, HP.out, hge])
       obtain ⟨a6, c6, w7, hr6, hc6, hb6, he6⟩ := appOne wL.heap.size w6 a5 q c5 x O HC6.out HQL.out (by omega) HB6.size
       have HR6 := hI_ hr6
       have HC7 := hI_ hc6
       have HE6 := hI_ he6
       have HB7 := hI_ (HB6.trans hb6)
       clear hr6 hc6 hb6 he6 hge
       go_wp2_with (at_builtin; refine Lib.wpList_append_run _ rfl _ _ 23 23 rfl (.slice a5 q c5) (.slice (some ⟨w6.heap.size, 0, none⟩) 1 1) rfl rfl _ _ HR6.out ?_)
       go_roundw
       case rel => exact ⟨k + 1, q + 1, O ++ [x], a6, c6, by omega, by go_num, rfl, HE6.out, by omega, HC7.out, HT.out, HB7.out⟩
       case measure => simp [intOf]; omega
     · have gg : ¬ (Q.commit : Int) ≤ (pv : Int) := by omega
       have HT := hI_ (show O = hasL Q.commit Q.mat (Q.conf.V.take (k + 1)) by rw [take_snocH HX.out, HO.out]; simp [hasL, HP.out, hge])
       have HB7 := hI_ HB6
       clear hge
       go_wp2_with fail
       go_roundw
       case rel => exact ⟨k + 1, q, O, a5, c5, by omega, by go_num, rfl, HQL.out, by omega, HC6.out, HT.out, HB7.out⟩
       case measure => simp [intOf]; omega
   · have hkn : k = Q.conf.V.length := by omega
     have i1 : ¬ (k : Int) < (Q.conf.V.length : Int) := by omega
     have hOV : O = hasL Q.commit Q.mat Q.conf.V := by rw [HO.out, hkn, List.take_length]
     obtain ⟨a7, c7, e7, hU7, _⟩ := HCq.out.form
     injection e7 with ea eb ec
     subst ea
     clear eb ec
     have HU7 := hI_ hU7
     have HOV := hI_ hOV
     clear hU7 hOV hB
     go_wp2_with (first
      | (refine lBk rfl _ rfl rfl confT HC rfl ?_))
     refine (rMost_any Q.conf.V.length s1.c _ _ q c5 s1.a s2.a a5 Q.conf.V O rfl (by omega) HCAP.out.1 (by have := HCAP.out.2; unfold maxLen at this; omega) HQL.out (by omega) _ (HV.out _ HBR.out) HU7.out).mono ?_
     rintro e w7 ⟨rfl, hb⟩
     rw [show mostB Q.conf.V O = true from by rw [HOV.out]; exact HMOST.out]
     have HB7 : Below wL.heap.size wL w7 := HBR.out.trans (hb.mono HBR.out.size)
     have HF := hI_ (show Below w.heap.size w w7 from HBL.out.trans (HB7.mono HBL.out.size))
     have H7 := H7L.out _ HB7
     have HN := HNL.out _ HB7
     clear hb hlt hk hqk c0 m14 m11 HC i1
     have n11 := HN.bx.c 11 _ rfl
     have k11 := H7.bx.c 11 _ rfl
     have k3 := H7.bx.c 3 _ rfl
     have k5 := H7.bx.c 5 _ rfl
     have k6 := H7.bx.c 6 _ rfl
     have k8 := H7.bx.c 8 _ rfl
     obtain ⟨hle, hbt, hin⟩ := at_cases HCM.out.at_
     obtain ⟨j, hj⟩ : ∃ j, Q.commit = Q.g.base + j := ⟨Q.commit - Q.g.base, by omega⟩
     have hup := HCM.out.up
     have hbb := hbd.base
     have hll := hbd.ents
     rw [← HCM.out.g] at hbb hll
     have hjl : j ≤ Q.g.L.length := by
      rcases Nat.eq_zero_or_pos j with h0 | h0
      · omega
      · obtain ⟨x, hx, _⟩ := hin (by omega)
        have := (List.getElem?_eq_some_iff.1 hx).1
        omega
     have hw1 : IntKind.u64.wrap ((Q.commit : Int) - (Q.g.base : Int)) = ((j : Nat) : Int) := by rw [IntWalk.u64_in _ (by omega)]; omega
     have hw2 : IntKind.u64.wrap (Q.g.L.length : Int) = (Q.g.L.length : Int) := IntWalk.u64_in _ (by omega)
     have gu : (p.commit : Int) < (Q.commit : Int) := by omega
     have hj64 : j < 18446744073709551616 := by omega
     have HJ := hI_ hj
     have HIN := hI_ hin
     have HBT := hI_ hbt
     clear hj hin hbt hle hup hbb hll
     go_upto_region 18 with fail
     rcases Nat.eq_zero_or_pos j with h0 | h0
     · have hbq := HBT.out (by have := HJ.out; omega)
       have gj : (j : Int) < 1 := by omega
       have gz : ((j : Int) == 0) = true := by simp; omega
       have gt : ((Q.g.bt : Int) == (Q.term : Int)) = true := by simp; omega
       clear h0 hbq hw2
       go_wp2_with fail
       go_ret
       exact ⟨rfl, HF.out⟩
     · obtain ⟨x, hx, hxt⟩ := HIN.out (by have := HJ.out; omega)
       obtain ⟨b, off, e8, hb8, q0, q1⟩ := HES.out _ HB7 _ x hx
       obtain ⟨i, hi⟩ : ∃ i, Q.commit - Q.g.base - 1 = i := ⟨_, rfl⟩
       rw [hi] at q0
       have hi2 : j = i + 1 := by have := HJ.out; omega
       have hw3 : IntKind.u64.wrap ((j : Int) - 1) = ((i : Nat) : Int) := by rw [IntWalk.u64_in _ (by omega)]; omega
       have gj : ¬ (j : Int) < 1 := by omega
       have gl : ¬ (Q.g.L.length : Int) < (j : Int) := by omega
       have i0 : (0 : Int) ≤ (i : Int) := by omega
       have i1 : (i : Int) < (Q.g.L.length : Int) := by omega
       have gt : ((x.t : Int) == (Q.term : Int)) = true := by simp; omega
       rw [e8] at k8
       clear h0 hx hi hi2 hxt
       go_wp2_with fail
       go_quiet (fail)
       go_wp2_with fail
       go_ret
       exact ⟨rfl, below_drewN HF.out _⟩
end Go.Proofs.YtdcpiaoadbbdoaaGreat
