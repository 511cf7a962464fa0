/- Voices are counted. -/
import Derived.Test.YtdcpiaoadbbdoaaGreatDoorRb
import Derived.Test.YtdcpiaoadbbdoaaGreatDoorQz
import Derived.Test.YtdcpiaoadbbdoaaGreatDoorWk
import Derived.Test.YtdcpiaoadbbdoaaGreatDoorQw
import Derived.Test.YtdcpiaoadbbdoaaGreatDoorQh
set_option maxRecDepth 100000
set_option maxHeartbeats 16000000
namespace Go.Proofs.YtdcpiaoadbbdoaaGreatDoor
open Go.RowKit

theorem pCountG_any (hRM : RmOk) (p : Pn) (d : Ad) (hBd : Bd p) (K : Nat) (w : World) (hK : K ≤ w.heap.size) (hM : NdM K w p d)
 (hST : p.role = 1 → ∀ w1, K ≤ w1.heap.size → NdM K w1 p d → Calls Tryz.prog 154 #[ndV p d] w1 (NmP K w1 (standP p))) :
 Calls Tryz.prog 122 #[ndV p d] w (NmP K w (countP p)) := by
 obtain ⟨W, hW, B0, N0, Z0⟩ := nk_new w p d
 obtain ⟨W1, y, hW1, hy, B1, HR, Z1⟩ := bk_new W znA 34
 have HN := N0.later (hy ▸ B1)
 have HB := B0.trans (B1.mono (by have := Z0.out; omega))
 have hyn := hI_ (show w.heap.size < y by have := Z0.out; omega)
 clear B0 N0 B1
 unfold ndA at hW
 unfold znA at hW1
 have HM := hM.later HB
 have hmay := conf_may hBd.may
 obtain ⟨⟨hv0, hv7, hl3⟩, hvx, _⟩ := mayB_iff.1 hmay
 have hvo := hBd.voices
 have HCN := hI_ (show ∀ (w1 : World) (s1 s2 : Sa), Us w1 s1.a p.conf.V → NdM K w1 p d → Calls Tryz.prog 153 #[.agg #[.slice s1.a p.conf.V.length s1.c, .slice s2.a p.conf.L.length s2.c], .slice d.o.a p.voices.length d.o.c] w1 fun e w' => e = .returned (.int .i64 (cntV p.conf.V p.voices)) ∧ Below w1.heap.size w1 w' from fun w1 s1 s2 hV hm => pCount_any _ _ _ _ _ _ _ _ _ p.conf.V p.voices rfl (by omega) rfl (by omega) (fun x hx => by have := hvx x hx; omega) hBd.ids _ hV hm.o)
 have HCP := hI_ (show countP p = if cntV p.conf.V p.voices = 1 then (if p.role = 1 then standP p else leadP p) else if cntV p.conf.V p.voices = 2 then (followP p p.term, []) else (p, []) from rfl)
 have HST := hI_ hST
 have HRM := hI_ hRM
 generalize cntV p.conf.V p.voices = v at *
 clear hM hST hRM hv0 hv7 hl3 hvx hvo
 go_enter Tryz.func122, Tryz.ntmps122
 go_wp2_with fail
 refine wp_region_held_drew (S := fun w' => Bk w' w.heap.size 34 (ndL p d) ∧ Bk w' y 34 znA.toList ∧ NdM K w' p d ∧ Below w.heap.size w w') (by kernel_rfl) (⟨HN.later ((Below.refl _ _).drew), HR.later ((Below.refl _ _).drew), HM.later ((Below.refl _ _).drew), HB.drew⟩) (fun HS => ?_)
 refine tkh (i := 0) (v := (.agg (ndL p d).toArray)) rfl ⟨by rfl, fun _ hSw => eLb _ rfl rfl nodeT hSw.1 rfl⟩ HS ?_
 try simp only [ly, Act.put]
 refine tkp (i := 2) rfl HS ?_
 refine tkh (i := 3) (v := (.slice d.o.a p.voices.length d.o.c)) rfl ⟨by rfl, fun _ hSw => exec_load_c _ rfl rfl ocV hSw.1 rfl⟩ HS ?_
 try simp only [ly, Act.put]
 refine onh (r := 1) (by kernel_rfl) rfl (fun KK hK => ?_)
 go_simp
 refine (pConf_any p d hBd K _ HS.2.2.1).mono ?_
 rintro e w2 ⟨s1, s2, rfl, hV, hU, hb⟩
 have HV := hI_ hV
 clear hV hU
 go_wp2_with fail
 refine hK.out _ _ ⟨HS.1.later hb, HS.2.1.later hb, HS.2.2.1.later hb, HS.2.2.2.trans (hb.mono HS.2.2.2.size)⟩ (fun HS => ?_)
 clear hK
 try simp only [ly, Act.put]
 refine onh (r := 4) (by kernel_rfl) rfl (fun KK hK => ?_)
 go_simp
 refine (HCN.out _ s1 s2 HV.out HS.2.2.1).mono ?_
 rintro e w4 ⟨rfl, hb⟩
 go_wp2_with fail
 refine hK.out _ _ ⟨HS.1.later hb, HS.2.1.later hb, HS.2.2.1.later hb, HS.2.2.2.trans (hb.mono HS.2.2.2.size)⟩ (fun HS => ?_)
 clear hK
 try simp only [ly, Act.put]
 refine wpAnyH_done (by kernel_rfl) ?_ _
 replace HN := HS.1
 replace HR := HS.2.1
 replace HM := HS.2.2.1
 replace HB := HS.2.2.2
 clear HS
 by_cases h1 : v = 1
 case pos =>
  subst h1
  have HSZ := hI_ HB.size
  by_cases hr : p.role = 1
  case pos =>
   have gr : (p.role == 1) = true := by simp [hr]
   have HC2 := hI_ (show countP p = standP p by rw [HCP.out, if_pos rfl, if_pos hr])
   have HS2 := hI_ (HST.out hr)
   have HRR := hI_ hr
   clear hr
   go_wp2_with (first
    | (refine lBk rfl _ rfl rfl nodeT (by assumption) rfl ?_)
    | (refine lCc rfl _ rfl rfl (ocA rfl) (by assumption) rfl ?_))
   refine (HS2.out _ (Nat.le_trans hK HB.size) HM).mono ?_
   obtain ⟨P3, M3, h3⟩ : ∃ P3 M3, standP p = (P3, M3) := ⟨_, _, rfl⟩
   have HQ := hI_ (show countP p = (P3, M3) from HC2.out.trans h3)
   rw [h3]
   clear h3
   rintro e w6 ⟨D3, v, O, rfl, hm3, hC, hO, hb⟩
   replace HB := HB.trans (hb.mono HB.size)
   replace HR := HR.later hb
   replace HM := hm3
   replace hC := hC.mono HSZ.out
   simp only at hO HM
   have HO := hI_ hO
   clear hb hm3 hO HN
   go_wp2_with (first
    | (refine sBk rfl _ _ rfl rfl rfl nodeT HR rfl rfl rfl ?_; intro w' hk hg; replace HM := HM.grown hg (by have := hyn.out; omega) HR.bx.ty bNd; replace hC := hC.box hg HR.bx.ty boxNm; replace HB := bGr HB hg HB.size (by have := hyn.out; omega); replace HR := hk; clear hk hg))
   refine bodyPost_ret (v := .tuple #[ndV P3 D3, v]) (by rw [rBt Tryz.results122 _ rfl nodeT HR rfl]; rfl) rfl ?_
   rw [HQ.out]
   exact ⟨D3, v, O, rfl, HM, hC, HO.out, HB⟩
  case neg =>
   have gr : (p.role == 1) = false := by simp [hr]
   have HC2 := hI_ (show countP p = leadP p by rw [HCP.out, if_pos rfl, if_neg hr])
   clear hr
   go_wp2_with (first
    | (refine lBk rfl _ rfl rfl nodeT (by assumption) rfl ?_)
    | (refine lCc rfl _ rfl rfl (ocA rfl) (by assumption) rfl ?_))
   refine (pLead_any HRM.out p d hBd K _ (Nat.le_trans hK HB.size) HM).mono ?_
   obtain ⟨P3, M3, h3⟩ : ∃ P3 M3, leadP p = (P3, M3) := ⟨_, _, rfl⟩
   have HQ := hI_ (show countP p = (P3, M3) from HC2.out.trans h3)
   rw [h3]
   clear h3
   rintro e w6 ⟨D3, v, O, rfl, hm3, hC, hO, hb⟩
   replace HB := HB.trans (hb.mono HB.size)
   replace HR := HR.later hb
   replace HM := hm3
   replace hC := hC.mono HSZ.out
   simp only at hO HM
   have HO := hI_ hO
   clear hb hm3 hO HN
   go_wp2_with (first
    | (refine sBk rfl _ _ rfl rfl rfl nodeT HR rfl rfl rfl ?_; intro w' hk hg; replace HM := HM.grown hg (by have := hyn.out; omega) HR.bx.ty bNd; replace hC := hC.box hg HR.bx.ty boxNm; replace HB := bGr HB hg HB.size (by have := hyn.out; omega); replace HR := hk; clear hk hg))
   refine bodyPost_ret (v := .tuple #[ndV P3 D3, v]) (by rw [rBt Tryz.results122 _ rfl nodeT HR rfl]; rfl) rfl ?_
   rw [HQ.out]
   exact ⟨D3, v, O, rfl, HM, hC, HO.out, HB⟩
 case neg =>
  have g1 : (v == 1) = false := by simp [h1]
  by_cases h2 : v = 2
  case pos =>
   have HC2 := hI_ (show countP p = (followP p p.term, []) by rw [HCP.out, if_neg h1, if_pos h2])
   subst h2
   clear h1
   go_wp2_with (first
    | (refine lBk rfl _ rfl rfl nodeT (by assumption) rfl ?_)
    | (refine lCc rfl _ rfl rfl (ocA rfl) (by assumption) rfl ?_))
   refine (pFollow_any p d p.term K _ HM).mono ?_
   obtain ⟨P3, h3⟩ : ∃ P3, followP p p.term = P3 := ⟨_, rfl⟩
   rw [h3]
   have HQ := hI_ (show countP p = (P3, []) by rw [HC2.out, h3])
   clear h3
   rintro e w5 ⟨D2, rfl, hm2, hb⟩
   replace HB := HB.trans (hb.mono HB.size)
   replace HR := HR.later hb
   replace HM := hm2
   clear hb hm2 HN
   go_wp2_with (first
    | (refine sBk rfl _ _ rfl rfl rfl nodeT HR rfl rfl rfl ?_; intro w' hk hg; replace HM := HM.grown hg (by have := hyn.out; omega) HR.bx.ty bNd; replace HB := bGr HB hg HB.size (by have := hyn.out; omega); replace HR := hk; clear hk hg))
   refine bodyPost_ret (v := .tuple #[ndV P3 D2, .slice none 0 0]) (by rw [rBt Tryz.results122 _ rfl nodeT HR rfl]; rfl) rfl ?_
   rw [HQ.out]
   exact ⟨D2, _, [], rfl, HM, CqG.nil _ _ none, rfl, HB⟩
  case neg =>
   have g2 : (v == 2) = false := by simp [h2]
   have HC2 := hI_ (show countP p = (p, []) by rw [HCP.out, if_neg h1, if_neg h2])
   clear h1 h2
   go_wp2_with (first
    | (refine lBk rfl _ rfl rfl nodeT (by assumption) rfl ?_)
    | (refine sBk rfl _ _ rfl rfl rfl nodeT HR rfl rfl rfl ?_; intro w' hk hg; replace HM := HM.grown hg (by have := hyn.out; omega) HR.bx.ty bNd; replace HN := HN.grown hg (by have := hyn.out; omega); replace HB := bGr HB hg HB.size (by have := hyn.out; omega); replace HR := hk; clear hk hg))
   refine bodyPost_ret (v := .tuple #[ndV p d, .slice none 0 0]) (by rw [rBt Tryz.results122 _ rfl nodeT HR rfl]; rfl) rfl ?_
   rw [HC2.out]
   exact ⟨d, _, [], rfl, HM, CqG.nil _ _ none, rfl, HB⟩

theorem CqG.no {B : Nat} {w : World} {v : Value} {L : List Mg} (h : CqG B w v L) {y : Nat} (hy : w.heap.size ≤ y) : v.ownBlock ≠ some y ∨ (L = [] ∧ ∃ ao, v = .slice ao 0 0) := by
 rcases h.1 with h | h
 · exact .inr h
 · refine .inl ?_
   rcases h.2 with ⟨e, _⟩ | ⟨g, cap, cur, e, _, hb, _⟩
   · rw [e]; simp [Value.ownBlock]
   · rw [e]; simp [Value.ownBlock]
     have := (Array.getElem?_eq_some_iff.1 hb).1; omega
theorem CqG.keep {B : Nat} {w w' : World} {v : Value} {L : List Mg} {y : Nat} {T : TypeId} (h : CqG B w v L) (hg : w.grownBy w' (some y)) (hno : v.ownBlock ≠ some y ∨ (L = [] ∧ ∃ ao, v = .slice ao 0 0)) (hy : ∃ cur, w.heap[y]? = some (.cells cur T (0, 0))) (hT : T ≠ 65) : CqG B w' v L :=
 ⟨by
  rcases hno with h1 | h1
  · exact h.1.imp id fun h => h.kept hg (.inr (fun e => h1 e))
  · exact .inl h1, h.2.box hg hy hT⟩
theorem pRequest_any (p : Pn) (d : Ad) (hBd : Bd p) (kind : Int) (T : Nat) (K n c : Nat) (a : Option Addr) (L : List Nat) (hn : L.length = n) (hl : n ≤ 1000) (w : World) (hM : NdM K w p d) (hU : Us w a L) :
 Calls Tryz.prog 120 #[ndV p d, .int .i64 kind, .int .u64 T, .slice a n c] w (MsP w (L.map (reqG p kind T))) := by
 obtain ⟨W, hW, HB, HN, Z0⟩ := nk_new w p d
 unfold ndA at hW
 have HU := hI_ hU
 have HNN := hI_ hn
 have hn47 : n ≤ 140737488351232 := by omega
 have hba := hBd.base
 have hel := hBd.ents
 have HLA := hI_ (show ∀ w1 : World, Below w.heap.size w w1 → Calls Tryz.prog 86 #[.agg #[.int .u64 p.g.base, .int .u64 p.g.bt, .string p.g.snap, .slice d.e.a p.g.L.length d.e.c]] w1 fun e w' => e = .returned (.tuple #[.int .u64 p.endI, .int .u64 p.endT]) ∧ Below w1.heap.size w1 w' from fun w1 HB => pLast_any _ _ _ _ _ _ p.g.L rfl (by omega) hba w1 (hM.later HB).e)
 clear hU hn hba hel
 go_enter Tryz.func120, Tryz.ntmps120
 go_wp2_with fail
 go_loopw [9, 15] (fun v i wr => ∃ (k : Nat) (O : List Mg) (V : Value), V = v ∧ k ≤ n ∧ i = .int .i64 k ∧ O.length = k ∧ CqG (w.heap.size + 1) wr v O ∧ O.map Mg.pl = (L.take k).map (reqG p kind T) ∧ Below (w.heap.size + 1) W wr) (fun _ i _ => n - (intOf i).toNat)
 case atStart => exact ⟨0, [], _, rfl, Nat.zero_le _, rfl, rfl, CqG.nil _ _ none, rfl, Below.refl _ _⟩
 case round =>
  obtain ⟨k, O, V, hv, hk, rfl, hO, hC, hP, HW⟩ := hrel
  subst hv
  have hz := Z0.out
  replace HN := HN.under (Nat.lt_succ_self _) HW
  replace HB := HB.trans (HW.mono (Nat.le_succ _))
  have hsz := hI_ (show w.heap.size + 1 ≤ wr.heap.size by have := HW.size; omega)
  clear hz
  have HO := hI_ hO
  have HC := hI_ hC
  have HP := hI_ hP
  clear hO hC hP
  by_cases hlt : k < n
  · obtain ⟨q, hx⟩ : ∃ q, L[k]? = some q := ⟨_, List.getElem?_eq_getElem (by rw [HNN.out]; exact hlt)⟩
    have i0 : (0 : Int) ≤ (k : Int) := by omega
    have i1 : (k : Int) < (n : Int) := by omega
    obtain ⟨b, off, rfl, hb, p0⟩ := HU.out.later HB k q hx
    have HX := hI_ hx
    clear hx
    go_wp2_with (first
     | (refine lBk rfl _ rfl rfl nodeT (by assumption) rfl ?_))
    clear p0 hb
    refine (pMessage_any p d kind q _).mono ?_
    rintro e w2 ⟨rfl, hb2⟩
    replace HN := HN.later hb2
    replace HB := HB.trans (hb2.mono HB.size)
    replace HW := HW.trans (hb2.mono hsz.out)
    obtain ⟨x0, hx0⟩ : ∃ x, msgG p kind q = x := ⟨_, rfl⟩
    have HX0 := hI_ hx0
    rw [hx0]
    clear hx0
    obtain ⟨w3, y, hw3, hy, B3, HM, Z3⟩ := bk_new w2 (mgA x0) 59
    have B3' : Below w2.heap.size w2 w3 := hy ▸ B3
    have hs2 := hI_ (Nat.le_trans hsz.out hb2.size)
    have hyx := hI_ (show w.heap.size + 1 ≤ y by have := hs2.out; omega)
    have hyo := hI_ ((HC.out.later hb2).no (y := y) (by omega))
    replace HN := HN.later B3'
    replace HB := HB.trans (B3'.mono HB.size)
    replace HW := HW.trans (B3'.mono hs2.out)
    replace HC := hI_ ((HC.out.later hb2).later B3')
    unfold mgA at hw3
    clear B3 B3' hb2
    go_wp2_with (first
     | (refine lSb rfl _ rfl rfl [.int .u64 p.g.base, .int .u64 p.g.bt, .string p.g.snap, .slice d.e.a p.g.L.length d.e.c] logT (by assumption) rfl rfl ?_)
     | (refine sCc (v := .int .u64 T) rfl _ _ rfl rfl rfl ocU HM rfl rfl rfl ?_; intro w' hk hg; replace HN := HN.grown hg (by have := hyx.out; omega); replace HC := hI_ (HC.out.keep hg hyo.out HM.bx.ty messNe); replace HB := bGr HB hg HB.size (by have := hyx.out; omega); replace HW := bGr HW hg (by have := HM.lt; have := hyx.out; omega) hyx.out; replace HM := hk; clear hk hg))
    refine (HLA.out _ HB).mono ?_
    rintro e w4 ⟨rfl, hb4⟩
    have hs4 := hI_ (show w.heap.size + 1 ≤ w'.heap.size by have := HM.lt; have := hyx.out; omega)
    replace HN := HN.later hb4
    replace HB := HB.trans (hb4.mono HB.size)
    replace HW := HW.trans (hb4.mono hs4.out)
    replace HM := HM.later hb4
    replace HC := hI_ (HC.out.later hb4)
    clear hb4
    go_wp2_with (first
     | (refine sCc (v := .int .u64 p.endI) rfl _ _ rfl rfl rfl ocU HM rfl rfl rfl ?_; intro w' hk hg; replace HN := HN.grown hg (by have := hyx.out; omega); replace HC := hI_ (HC.out.keep hg hyo.out HM.bx.ty messNe); replace HB := bGr HB hg HB.size (by have := hyx.out; omega); replace HW := bGr HW hg (by have := HM.lt; have := hyx.out; omega) hyx.out; replace HM := hk; clear hk hg)
     | (refine sCc (v := .int .u64 p.endT) rfl _ _ rfl rfl rfl ocU HM rfl rfl rfl ?_; intro w' hk hg; replace HN := HN.grown hg (by have := hyx.out; omega); replace HC := hI_ (HC.out.keep hg hyo.out HM.bx.ty messNe); replace HB := bGr HB hg HB.size (by have := hyx.out; omega); replace HW := bGr HW hg (by have := HM.lt; have := hyx.out; omega) hyx.out; replace HM := hk; clear hk hg)
     | (refine lBk rfl _ rfl rfl messT HM rfl ?_; (have hs6 := hI_ (show w.heap.size + 1 ≤ w'.heap.size by have := HM.lt; have := hyx.out; omega)); obtain ⟨x, hx⟩ : ∃ x : Mg, x = { x0 with term := T, i := p.endI, lt := p.endT } := ⟨_, rfl⟩; (have hxp : x.pl = reqG p kind T q := by rw [hx, ← HX0.out]; rfl); (have hxm : MgM w' [x] := fun z hz => by simp only [List.mem_singleton] at hz; subst hz; exact .inl (by rw [hx, ← HX0.out]; rfl)); obtain ⟨v6, w6, hr6, hc6, hb6⟩ := app_one (w.heap.size + 1) w' 39 V O HC.out x hxm (by rw [HO.out]; omega) hs6.out; (have hrx : mgA x = #[.int .i64 x0.kind, .int .u64 x0.fr, .int .u64 x0.dst, .int .u64 T, .int .u64 p.endI, .int .u64 p.endT, .int .u64 x0.commit, .bool x0.ok, .slice x0.at_ x0.es.length x0.cap, .string x0.snap] := by rw [hx]); rw [hrx] at hr6; (have HT := hI_ (show (O ++ [x]).map Mg.pl = (L.take (k + 1)).map (reqG p kind T) by rw [map_snoc _ HX.out, pl_snoc HP.out hxp])); (have HL := hI_ (show (O ++ [x]).length = k + 1 by rw [List.length_append, HO.out]; rfl)); have HR6 := hI_ hr6; have HC6 := hI_ hc6; have HB6 := hI_ (HW.trans hb6); clear hr6 hc6 hb6 hxp hxm HC hx hrx)
     | (at_builtin; refine Lib.wpList_append_run _ rfl _ _ 39 39 rfl V (.slice (some ⟨w'.heap.size, 0, none⟩) 1 1) rfl rfl _ _ HR6.out ?_))
    go_roundw
    case rel => exact ⟨k + 1, O ++ [x], _, rfl, by omega, by go_num, HL.out, HC6.out, HT.out, HB6.out⟩
    case measure => simp [intOf]; omega
  · have hkn : k = n := by omega
    subst hkn
    have hT : L.map (reqG p kind T) = (L.take k).map (reqG p kind T) := by rw [List.take_of_length_le (by rw [HNN.out]; exact Nat.le_refl _)]
    have HF := hI_ (show MsP w (L.map (reqG p kind T)) (.returned V) wr from ⟨_, O, rfl, HC.out.mono (Nat.le_succ _), by rw [hT]; exact HP.out, HB⟩)
    go_wp2_with fail
    go_ret
    exact HF.out

theorem app_mgG (B : Nat) (w : World) (ty : TypeId) (v : Value) (L : List Mg) (h : CqG B w v L) (a : Option Addr) (m c : Nat) (M : List Mg) (hm : M.length = m) (hM : Mgs w a M) (hMM : MgM w M) (hl : L.length + m ≤ 1000000) (hB : B ≤ w.heap.size) :
 ∃ v' w', (Builtin.append_ #[39, 39] ty #[v, .slice a m c]).run Tryz.prog w = .ok v' w' ∧ (CqG B w' v' (L ++ M) ∧ Below B w w' ∧ ∃ r, w.grownBy w' r ∧ ∀ k, r = some k → B ≤ k ∧ ∃ cur, w.heap[k]? = some (.cells cur 59 (0, 0))) := by
 have R := mgT
 obtain ⟨i0, hi, hz0, hz1', hz2'⟩ := info_parts R.info
 rcases Nat.eq_zero_or_pos m with h0 | h0
 · subst h0
   have hM0 : M = [] := List.length_eq_zero_iff.1 hm
   subst hM0
   rw [List.append_nil]
   have hs : Src Tryz.prog i0.size 39 (.slice a 0 c) 0 [] w := by
    cases a with
    | none => exact Src.ofNil w R.und c
    | some p => exact Src.ofSlice w R.und p 0 c [] (by simp) (by simp) (by simp)
   have hv : ∃ ao n cap, v = .slice ao n cap ∧ n ≤ cap := by
    rcases h.1 with ⟨_, ao, rfl⟩ | h
    · exact ⟨ao, 0, 0, rfl, Nat.le_refl _⟩
    · rcases h.2 with ⟨rfl, h0⟩ | ⟨g, cap, cur, rfl, _, _, hn, _⟩
      · exact ⟨none, 0, 0, rfl, Nat.le_refl _⟩
      · exact ⟨_, _, cap, rfl, hn⟩
   obtain ⟨ao, n, cap, rfl, hle⟩ := hv
   exact ⟨_, _, run_append_nothing w _ _ ty _ i0 R.und hi ao n cap hle _ hs, h, Below.refl _ _, none, ⟨rfl, rfl, rfl, Nat.le_refl _, fun _ _ _ => rfl⟩, fun k e => by cases e⟩
 · obtain ⟨b1, off, rfl, hb1⟩ := hM.addr (by omega)
   have hrow := rw_row R.len R.kp hM
   have hnews : ∀ j u, (rwC mgC M)[j]? = some u → w.cell? ((⟨b1, off, none⟩ : Addr).add j) = some u := fun j u hj => by rw [addAny']; exact hrow j u hj
   have hlen : (rwC mgC M).length = m * 10 := by rw [rwC_len R.len, hm]
   obtain ⟨h, hMg⟩ := h
   rcases h with ⟨rfl, ao, rfl⟩ | h
   · simp only [List.length_nil, Nat.zero_add] at hl
     cases ao with
     | none =>
      obtain ⟨v', w', hr, hown, hg, _⟩ := run_append_own (P := Tryz.prog) w B 39 ty 59 i0 _ 10 104 R.und hi hz0 hz1' hz2' R.zs R.kp (.slice none 0 0) 0 [] (World.ownsRow_nil w B _ 10) ⟨b1, off, none⟩ m c (rwC mgC M) hlen hnews (oneRw R M) (by unfold maxLen; omega) (by omega) hB
      refine ⟨v', w', hr, ⟨.inr ?_, ?_⟩, (Below.refl _ _).grown hg hB (by simp [Value.ownBlock]), _, hg, fun k e => by simp [Value.ownBlock] at e⟩
      · simpa [hm] using hown
      · rw [List.nil_append]; exact hMM.grown (World.ownsRow_nil w B 59 10) hg
     | some b =>
      obtain ⟨v', w', hr, hown, hg⟩ := run_append_arg_grows (P := Tryz.prog) w 39 ty 59 i0 _ 10 104 R.und hi hz0 hz1' hz2' R.zs R.kp b 0 0 [] (by simp) (by simp)
       ⟨b1, off, none⟩ m c (rwC mgC M) hlen hnews (by omega) (by unfold maxLen; omega) (by omega)
      refine ⟨v', w', hr, ⟨.inr ?_, ?_⟩, (Below.refl _ _).grown hg hB (by simp), _, hg, fun k e => by cases e⟩
      · have hown' := owns_less hown hB
        simpa [hm] using hown'
      · rw [List.nil_append]; exact hMM.grown (World.ownsRow_nil w B 59 10) hg
   · obtain ⟨v', w', hr, hown, hg, _⟩ := run_append_own (P := Tryz.prog) w B 39 ty 59 i0 _ 10 104 R.und hi hz0 hz1' hz2' R.zs R.kp v L.length (rwC mgC L) h ⟨b1, off, none⟩ m c (rwC mgC M) hlen hnews (oneRw R M) (by unfold maxLen; omega) (by omega) hB
     have hrow2 : ∀ k, v.ownBlock = some k → B ≤ k ∧ ∃ cur, w.heap[k]? = some (.cells cur 59 (0, 0)) := fun k e => by
      refine ⟨(h.lt k e).1, ?_⟩
      rcases h.2 with ⟨e2, _⟩ | ⟨g, cap, cur, e2, _, hb2, _⟩
      · rw [e2] at e; simp [Value.ownBlock] at e
      · rw [e2] at e; simp [Value.ownBlock] at e
        subst e; exact ⟨cur, hb2⟩
     refine ⟨v', w', hr, ⟨.inr ?_, ?_⟩, (Below.refl _ _).grown hg hB (fun k e => (h.lt k e).1), _, hg, hrow2⟩
     · rw [List.length_append, rwC_app, hm]
       exact hown
     · exact (hMg.app hMM).grown h hg
theorem Bk.rowed {w w' : World} {x B : Nat} {T : TypeId} {L : List Value} (h : Bk w x T L) (hx : x < B) (hb : Below B w w') : Bk w' x T L := h.under hx hb
theorem NdM.rowed {K B : Nat} {w w' : World} {p : Pn} {d : Ad} (h : NdM K w p d) (hK : K ≤ B) (hg : ∃ r, w.grownBy w' r ∧ ∀ k, r = some k → B ≤ k ∧ ∃ cur, w.heap[k]? = some (.cells cur 59 (0, 0))) : NdM K w' p d := by
 obtain ⟨r, hg, hr⟩ := hg
 cases r with
 | none => exact h.later ((Below.refl _ _).grown hg (Nat.le_refl _) (fun k e => by cases e))
 | some k =>
  obtain ⟨h1, h2⟩ := hr k rfl
  exact h.grown hg (Nat.le_trans hK h1) h2 boxMessage
theorem standP_eq (p : Pn) : standP p = ((countP (standQ p)).1, (rivalsL p.conf p.id).map (reqG (standQ p) 3 (standQ p).term) ++ (countP (standQ p)).2) := rfl
theorem askP_eq (p : Pn) : askP p = ((countP (askQ p)).1, (rivalsL p.conf p.id).map (reqG (askQ p) 1 ((p.term + 1) % 18446744073709551616)) ++ (countP (askQ p)).2) := rfl
theorem bd_stand {p : Pn} (h : Bd p) : Bd (standQ p) := ⟨h.id, h.may, Nat.mod_lt _ (by decide), h.id, h.base, h.bt, h.snap, h.ents, h.data, h.commit, by simp [standQ], fun x hx => by simp only [standQ, List.mem_singleton] at hx; subst hx; exact h.id, h.next, h.mat, h.marks, h.nexts⟩
theorem bd_ask {p : Pn} (h : Bd p) : Bd (askQ p) := ⟨h.id, h.may, h.term, h.vote, h.base, h.bt, h.snap, h.ents, h.data, h.commit, by simp [askQ], fun x hx => by simp only [askQ, List.mem_singleton] at hx; subst hx; exact h.id, h.next, h.mat, h.marks, h.nexts⟩
theorem riv_len {c : Cf} {id : Nat} (h : mayB c.V c.L = true) : (rivalsL c id).length ≤ 7 := by
 obtain ⟨⟨_, h1, _⟩, _⟩ := mayB_iff.1 h
 exact Nat.le_trans (List.length_filter_le _ _) h1
theorem leadP_len {p : Pn} (h : Bd p) : (leadP p).2.length ≤ 10 := by
 rw [leadP_eq]
 by_cases h0 : addX (lead0 p) ⟨#[]⟩ = 0
 · rw [if_pos h0]
   unfold spreadP
   simp only [List.length_map]
   exact oth_len _ _ (conf_may (bd_commit (bd_lead h h0).2).may)
 · rw [if_neg h0]; simp
theorem countC_len {p : Pn} (h : Bd p) : (countC p).2.length ≤ 10 := by
 unfold countC
 by_cases h1 : cntV p.conf.V p.voices = 1
 · rw [if_pos h1]; exact leadP_len h
 · rw [if_neg h1]; split <;> simp
theorem standP_len {p : Pn} (h : Bd p) : (standP p).2.length ≤ 17 := by
 unfold standP
 have := countC_len (bd_stand h)
 have := riv_len (id := p.id) (conf_may h.may)
 simp only [List.length_append, List.length_map]; omega
theorem countP_len {p : Pn} (h : Bd p) : (countP p).2.length ≤ 17 := by
 unfold countP
 by_cases h1 : cntV p.conf.V p.voices = 1
 · rw [if_pos h1]
   by_cases h2 : p.role = 1
   · rw [if_pos h2]; exact standP_len h
   · rw [if_neg h2]; exact Nat.le_trans (leadP_len h) (by omega)
 · rw [if_neg h1]; split <;> simp

structure Mr (w : World) (g : Nat) (C : List Mk) : Prop where
 c : ∀ j x, C[j]? = some x → w.cell? ⟨g, j * 2, none⟩ = some (.int .u64 (x.id : Nat)) ∧ w.cell? ⟨g, j * 2 + 1, none⟩ = some (.int .u64 (x.n : Nat))
 fz : ∀ o, w.frozen? ⟨g, o, none⟩ = false
 lt : g < w.heap.size
 ty : ∃ cur, w.heap[g]? = some (.cells cur 100 (0, 0))
theorem Mr.of {B : Nat} {w : World} {v : Value} {L : List Mk} (h : CqM B w v L) (h0 : 0 < L.length) : ∃ g c, v = .slice (some ⟨g, 0, none⟩) L.length c ∧ B ≤ g ∧ L.length ≤ c ∧ Mr w g L := by
 rcases h with ⟨rfl, _⟩ | h
 · simp at h0
 · have h' := h
   rcases h.2 with ⟨_, e⟩ | ⟨g, cap, cur, e1, hB, hg, hn, hm, _⟩
   · omega
   · subst e1
     refine ⟨g, cap, rfl, hB, hn, ⟨fun j x hx => ?_, fun o => h'.frozenAt o, lt_of_rowG hg, ⟨cur, hg⟩⟩⟩
     have hj := (List.getElem?_eq_some_iff.1 hx).1
     have c0 := h'.cellAt (j * 2) (by omega)
     have c1 := h'.cellAt (j * 2 + 1) (by omega)
     have a0 := msCells_at L j x hx 0 (by omega)
     have a1 := msCells_at L j x hx 1 (by omega)
     rw [Nat.add_zero] at a0
     rw [a0] at c0; rw [a1] at c1
     exact ⟨c0, c1⟩
theorem Mr.later {w w' : World} {g : Nat} {C : List Mk} (h : Mr w g C) (hb : Below w.heap.size w w') : Mr w' g C :=
 ⟨fun j x hx => ⟨(hb.cell (p := ⟨g, j * 2, none⟩) h.lt).trans (h.c j x hx).1, (hb.cell (p := ⟨g, j * 2 + 1, none⟩) h.lt).trans (h.c j x hx).2⟩, fun o => (World.frozen?_of_block (a := ⟨g, o, none⟩) (hb.block g h.lt)).trans (h.fz o), Nat.lt_of_lt_of_le h.lt hb.size, by rw [hb.block g h.lt]; exact h.ty⟩
def put2 (w : World) (g i : Nat) (y : Mk) : World := (w.setCell ⟨g, i * 2, none⟩ (.int .u64 y.id)).setCell ⟨g, i * 2 + 1, none⟩ (.int .u64 y.n)
theorem put2_grown (w : World) (g i : Nat) (y : Mk) : w.grownBy (put2 w g i y) (some g) := grown_trans (setCell_grown w g _ _) (setCell_grown _ g _ _)
theorem Mr.put {w : World} {g : Nat} {C : List Mk} (h : Mr w g C) {i : Nat} (hi : i < C.length) (y : Mk) : Mr (put2 w g i y) g (C.set i y) := by
 obtain ⟨c0, c1⟩ := h.c i _ (List.getElem?_eq_getElem hi)
 unfold put2
 refine ⟨fun j x hx => ?_, fun o => by simpa using h.fz o, by simpa using h.lt, setCell_ty (setCell_ty h.ty _ _) _ _⟩
 rw [List.getElem?_set] at hx
 by_cases e : i = j
 · subst e
   rw [if_pos rfl, if_pos hi] at hx
   obtain rfl : y = x := Option.some.inj hx
   constructor
   · rw [World.cell?_setCell_other _ _ _ _ (by simp)]; simp [go_sem, c0]
   · have c1' : (w.setCell ⟨g, i * 2, none⟩ (.int .u64 y.id)).cell? ⟨g, i * 2 + 1, none⟩ = some (.int .u64 (C[i].n : Nat)) := by
      rw [World.cell?_setCell_other _ _ _ _ (by simp)]; exact c1
     simp [go_sem, c1']
 · rw [if_neg e] at hx
   obtain ⟨d0, d1⟩ := h.c j x hx
   constructor
   · rw [World.cell?_setCell_other _ _ _ _ (by first | (simp; done) | (simp; omega)), World.cell?_setCell_other _ _ _ _ (by first | (simp; done) | (simp; omega))]; exact d0
   · rw [World.cell?_setCell_other _ _ _ _ (by first | (simp; done) | (simp; omega)), World.cell?_setCell_other _ _ _ _ (by first | (simp; done) | (simp; omega))]; exact d1
theorem zeros_one {m : Nat} : ∀ v ∈ (Builtin.zeroCells (Value.agg #[.int .u64 0, .int .u64 0]).cells m).toList, v.oneCell' = true := by
 intro v hv
 simp only [Builtin.zeroCells, Array.toList_map, List.mem_map] at hv
 obtain ⟨i, _, rfl⟩ := hv
 show Value.oneCell' ((#[Value.int .u64 0, Value.int .u64 0] : Array Value)[i % 2]!) = true
 rcases Nat.mod_two_eq_zero_or_one i with e | e <;> rw [e] <;> rfl
theorem zeros_len (m : Nat) : (Builtin.zeroCells (Value.agg #[.int .u64 0, .int .u64 0]).cells m).toList.length = m * 2 := by
 simp [Builtin.zeroCells, Value.cells]
theorem setCells_ty {T : TypeId} {g : Nat} : ∀ (vs : List Value) (o : Nat) (w : World), (∃ cur, w.heap[g]? = some (.cells cur T (0, 0))) → ∃ cur, (w.setCells g o vs).heap[g]? = some (.cells cur T (0, 0))
 | [], _, _, h => h
 | v :: r, o, w, h => setCells_ty r (o + 1) (w.setCell ⟨g, o, none⟩ v) (setCell_ty h o v)
theorem setCells_grown {g : Nat} : ∀ (vs : List Value) (o : Nat) (w : World), w.grownBy (w.setCells g o vs) (some g)
 | [], _, _ => ⟨rfl, rfl, rfl, Nat.le_refl _, fun _ _ _ => rfl⟩
 | v :: r, o, w => grown_trans (setCell_grown w g o v) (setCells_grown r (o + 1) (w.setCell ⟨g, o, none⟩ v))
theorem clearM_run (w : World) (g o m c : Nat) (hc : ∀ j, j < m * 2 → (w.cell? ⟨g, o + j, none⟩).isSome = true) (hf : ∀ j, w.frozen? ⟨g, j, none⟩ = false) :
 ∃ w', (∀ ty, (Builtin.clear_ #[32] ty #[.slice (some ⟨g, o, none⟩) m c]).run Tryz.prog w = .ok (.tuple #[]) w') ∧ w.grownBy w' (some g) ∧ (∀ j, j < o → w'.cell? ⟨g, j, none⟩ = w.cell? ⟨g, j, none⟩) ∧
  ((∃ cur, w.heap[g]? = some (.cells cur 100 (0, 0))) → ∃ cur, w'.heap[g]? = some (.cells cur 100 (0, 0))) := by
 cases m with
 | zero => exact ⟨w, fun ty => by simp [Builtin.clear_, run_underlying Tryz.underlying32], ⟨rfl, rfl, rfl, Nat.le_refl _, fun _ _ _ => rfl⟩, fun _ _ => rfl, id⟩
 | succ m =>
  have hst := run_storeCells_cells (P := Tryz.prog) g o (Builtin.zeroCells (Value.agg #[.int .u64 0, .int .u64 0]).cells (m + 1)).toList 0 w (by rw [zeros_len]; simpa using hc) (fun j _ => by simpa using hf _) zeros_one
  simp only [Nat.add_zero] at hst
  have hv : ∀ w, (zeroValue 100).run Tryz.prog w = .ok (.agg #[.int .u64 0, .int .u64 0]) w := Tryz.zeroValue100
  exact ⟨w.setCells g o (Builtin.zeroCells (Value.agg #[.int .u64 0, .int .u64 0]).cells (m + 1)).toList, fun ty => by simp [Builtin.clear_, run_underlying Tryz.underlying32, hv, hst], setCells_grown _ _ _, fun j hj => World.cell?_setCells_out g _ o w ⟨g, j, none⟩ (fun _ _ => .inl hj), setCells_ty _ _ _⟩
def FsP (kp : Mk → Bool) (L : List Mk) (k : Int) : Prop := (k = -1 ∧ ∀ x ∈ L, kp x = true) ∨ ∃ (j : Nat) (x : Mk), k = (j : Int) ∧ L[j]? = some x ∧ kp x = false ∧ ∀ i, i < j → ∀ y : Mk, L[i]? = some y → kp y = true
structure Gn (w : World) (xn xm id : Nat) (am : Option Addr) (cm : Nat) (O : List Nat) : Prop where
 c : w.cell? ⟨xn, 0, none⟩ = some (.int .u64 id)
 cl : xn < w.heap.size
 m : w.cell? ⟨xm, 0, none⟩ = some (.slice am O.length cm)
 ml : xm < w.heap.size
 u : Us w am O
section
variable {w w' : World} {xn xm id cm g : Nat} {am : Option Addr} {O : List Nat}
theorem Gn.later (h : Gn w xn xm id am cm O) (hb : Below w.heap.size w w') : Gn w' xn xm id am cm O :=
 ⟨(hb.cell (p := ⟨xn, 0, none⟩) h.cl).trans h.c, Nat.lt_of_lt_of_le h.cl hb.size, (hb.cell (p := ⟨xm, 0, none⟩) h.ml).trans h.m, Nat.lt_of_lt_of_le h.ml hb.size, h.u.later hb⟩
def Off (g xn xm : Nat) (am : Option Addr) (O : List Nat) : Prop := g ≠ xn ∧ g ≠ xm ∧ (0 < O.length → ∀ q, am = some q → q.block ≠ g)
theorem Gn.grown (h : Gn w xn xm id am cm O) (hg : w.grownBy w' (some g)) (hf : Off g xn xm am O) : Gn w' xn xm id am cm O :=
 ⟨(World.cell?_of_block (a := ⟨xn, 0, none⟩) (hg.block xn h.cl (by simpa using fun e => hf.1 e.symm))).trans h.c, Nat.lt_of_lt_of_le h.cl hg.size, (World.cell?_of_block (a := ⟨xm, 0, none⟩) (hg.block xm h.ml (by simpa using fun e => hf.2.1 e.symm))).trans h.m, Nat.lt_of_lt_of_le h.ml hg.size, h.u.grown hg hf.2.2⟩
end
def kpM (id : Nat) (O : List Nat) (x : Mk) : Bool := decide (x.id = id) || hasN x.id O
theorem gone1_any (x : Mk) (xn xm id cm : Nat) (am : Option Addr) (O : List Nat) (hO : O.length ≤ 1000) (w : World) (H : Gn w xn xm id am cm O) :
 Calls Tryz.prog 82 #[.agg #[.int .u64 x.id, .int .u64 x.n], .pointer (some ⟨xn, 0, none⟩), .pointer (some ⟨xm, 0, none⟩)] w fun e w' => e = .returned (.bool (!kpM id O x)) ∧ Below w.heap.size w w' := by
 obtain ⟨i, n⟩ := x
 have B1 : Below w.heap.size w (w.alloc (.cells #[.int .u64 i, .int .u64 n] 100)) := (Below.refl _ _).alloc (Nat.le_refl _) _
 obtain ⟨c, cl, m, ml, u⟩ := H.later B1
 have HB := hI_ B1
 have HU := hI_ u
 clear H B1 u
 by_cases he : i = id
 · subst he
   have HT := hI_ (show (!kpM i O ⟨i, n⟩) = false by simp [kpM])
   go_enter Tryz.func82, Tryz.ntmps82
   go_wp2_with fail
   go_ret
   exact ⟨by rw [HT.out]; rfl, HB.out⟩
 · have g : ((i : Int) == (id : Int)) = false := by simp; omega
   have g' : ((i : Int) != (id : Int)) = true := by simp; omega
   have HT := hI_ (show (!kpM id O ⟨i, n⟩) = !hasN i O by simp [kpM, he])
   go_enter Tryz.func82, Tryz.ntmps82
   go_wp2_with fail
   refine (pContains_any i _ _ _ O rfl (by omega) _ HU.out).mono ?_
   rintro e w2 ⟨rfl, rfl⟩
   go_wp2_with fail
   go_ret
   exact ⟨by rw [HT.out]; rfl, HB.out⟩
theorem indexG_any (xn xm id cm n c : Nat) (am a : Option Addr) (O : List Nat) (hO : O.length ≤ 1000) (L : List Mk) (hn : L.length = n) (hl : n ≤ 140737488351232) (w : World) (H : Gn w xn xm id am cm O) (hM : Ms w a L) :
 Calls Tryz.prog 138 #[.slice a n c, .func (.func 82) #[] #[.pointer (some ⟨xn, 0, none⟩), .pointer (some ⟨xm, 0, none⟩)]] w fun e w' => (∃ k : Int, e = .returned (.int .i64 k) ∧ FsP (kpM id O) L k) ∧ Below w.heap.size w w' := by
 have HN := hI_ hn
 have HM := hI_ hM
 have HH := hI_ H
 have HW := hI_ (Below.refl w.heap.size w)
 clear hn hM H
 go_enter Tryz.func138, Tryz.ntmps138
 go_wp2_with fail
 go_loopw [8] (fun u wr => ∃ k : Nat, k ≤ n ∧ u = .int .i64 k ∧ (∀ i, i < k → ∀ y : Mk, L[i]? = some y → kpM id O y = true) ∧ Below w.heap.size w wr) (fun u _ => n - (intOf u).toNat)
 case atStart => exact ⟨0, Nat.zero_le _, rfl, fun i hi => absurd hi (Nat.not_lt_zero _), HW.out⟩
 case round =>
  obtain ⟨k, hk, rfl, hf, B⟩ := hrel
  have HFB := hI_ hf
  clear hf
  by_cases hlt : k < n
  · obtain ⟨x, hx⟩ : ∃ x, L[k]? = some x := ⟨_, List.getElem?_eq_getElem (by rw [HN.out]; exact hlt)⟩
    obtain ⟨b, off, rfl, hb, p0, p1⟩ := HM.out.later B k x hx
    have HNB := hI_ (HH.out.later B)
    have HBB := hI_ B
    have HX := hI_ hx
    have i0 : (0 : Int) ≤ (k : Int) := by omega
    have i1 : (k : Int) < (n : Int) := by omega
    clear hx B
    go_wp2_with fail
    refine (gone1_any x xn xm id cm am O hO _ HNB.out).mono ?_
    rintro e w2 ⟨rfl, hb2⟩
    have B3 := HBB.out.trans (hb2.mono HBB.out.size)
    have HB3 := hI_ B3
    clear hb2 B3
    by_cases he : kpM id O x = false
    · rw [he]
      have HT := hI_ (show FsP (kpM id O) L k from Or.inr ⟨k, x, rfl, HX.out, he, HFB.out⟩)
      clear he
      go_wp2_with fail
      go_ret
      exact ⟨⟨k, rfl, HT.out⟩, HB3.out⟩
    · have he : kpM id O x = true := by simpa using he
      rw [he]
      have HT := hI_ (show ∀ i, i < k + 1 → ∀ y : Mk, L[i]? = some y → kpM id O y = true from fun i hi y hy => by
       by_cases hik : i = k
       · subst hik; have := HX.out; rw [hy] at this; cases this; exact he
       · exact HFB.out i (by omega) y hy)
      clear he
      go_wp2_with fail
      go_roundw
      case rel => exact ⟨k + 1, by omega, by go_num, HT.out, HB3.out⟩
      case measure => simp [intOf]; omega
  · have HT := hI_ (show FsP (kpM id O) L (-1) from Or.inl ⟨rfl, fun y hy => by
     obtain ⟨j, hj⟩ := List.mem_iff_getElem?.1 hy
     exact HFB.out j (by have := (List.getElem?_eq_some_iff.1 hj).1; have := HN.out; omega) y hj⟩)
    go_wp2_with fail
    go_ret
    exact ⟨⟨-1, rfl, HT.out⟩, B⟩
structure Ks (kp : Mk → Bool) (L C : List Mk) (i j : Nat) : Prop where
 lt : i < j
 le : j ≤ L.length
 len : C.length = L.length
 hd : C.take i = (L.take j).filter kp
 tl : ∀ t, j ≤ t → C[t]? = L[t]?
theorem Ks.start {kp : Mk → Bool} {L : List Mk} {j : Nat} {x : Mk} (hx : L[j]? = some x) (h1 : kp x = false) (h2 : ∀ i, i < j → ∀ y : Mk, L[i]? = some y → kp y = true) : Ks kp L L j (j + 1) := by
 have hj := (List.getElem?_eq_some_iff.1 hx).1
 refine ⟨Nat.lt_succ_self _, hj, rfl, ?_, fun t _ => rfl⟩
 rw [List.take_add_one, hx, List.filter_append]
 have e1 : (L.take j).filter kp = L.take j := List.filter_eq_self.2 fun y hy => by
  obtain ⟨i, hi⟩ := List.mem_iff_getElem?.1 hy
  have hl := (List.getElem?_eq_some_iff.1 hi).1
  rw [List.length_take] at hl
  rw [List.getElem?_take_of_lt (by omega)] at hi
  exact h2 i (by omega) y hi
 rw [e1]; simp [h1]
theorem Ks.skip {kp : Mk → Bool} {L C : List Mk} {i j : Nat} {x : Mk} (h : Ks kp L C i j) (hx : L[j]? = some x) (h1 : kp x = false) : Ks kp L C i (j + 1) := by
 have hj := (List.getElem?_eq_some_iff.1 hx).1
 refine ⟨Nat.lt_succ_of_lt h.lt, hj, h.len, ?_, fun t ht => h.tl t (by omega)⟩
 rw [h.hd, List.take_add_one, hx, List.filter_append]; simp [h1]
theorem Ks.keep {kp : Mk → Bool} {L C : List Mk} {i j : Nat} {x : Mk} (h : Ks kp L C i j) (hx : L[j]? = some x) (h1 : kp x = true) : Ks kp L (C.set i x) (i + 1) (j + 1) := by
 have hj := (List.getElem?_eq_some_iff.1 hx).1
 have hi : i < C.length := by have := h.lt; have := h.len; omega
 refine ⟨Nat.succ_lt_succ h.lt, hj, by rw [List.length_set]; exact h.len, ?_, fun t ht => ?_⟩
 · rw [List.take_add_one, List.take_set_of_le (Nat.le_refl _), List.getElem?_set, if_pos rfl, if_pos hi, h.hd, List.take_add_one, hx, List.filter_append]; simp [h1]
 · rw [List.getElem?_set, if_neg (by have := h.lt; omega)]; exact h.tl t (by omega)
theorem Ks.done {kp : Mk → Bool} {L C : List Mk} {i j : Nat} (h : Ks kp L C i j) (hj : j = L.length) : C.take i = L.filter kp := by
 rw [h.hd, hj, List.take_length]
theorem markT : StT 100 2 := ⟨fun w => by kernel_rfl, fun w => by kernel_rfl⟩
def DmP (K B : Nat) (w : World) (M : List Mk) (e : Ending) (w' : World) : Prop := ∃ a c, e = .returned (.slice a M.length c) ∧ Ms w' a M ∧ Ty K w' a M.length 100 ∧ Below B w w'
theorem deleteG_any (K B xn xm id cm n c : Nat) (am a : Option Addr) (O : List Nat) (hO : O.length ≤ 1000) (L : List Mk) (hn : L.length = n) (hl : n ≤ 140737488351232) (w : World) (hB : B ≤ w.heap.size) (H : Gn w xn xm id am cm O) (hC : CqM B w (.slice a n c) L)
 (hf : ∀ g, B ≤ g → (∃ cur, w.heap[g]? = some (.cells cur 100 (0, 0))) → Off g xn xm am O) :
 Calls Tryz.prog 83 #[.slice a n c, .func (.func 82) #[] #[.pointer (some ⟨xn, 0, none⟩), .pointer (some ⟨xm, 0, none⟩)]] w (DmP K B w (L.filter (kpM id O))) := by
 obtain ⟨a0, c0, e0, hM, hfa, _, _⟩ := hC.form
 injection e0 with ea en ec
 subst ea ec
 have hT : Ty K w a L.length 100 := by
  rcases hC with ⟨h0, _⟩ | h
  · rw [h0]; exact Ty.nil _ _ _ _
  · exact Ty.of_owns h (by rw [hn])
 have HF := hI_ (show ∀ w', Below w.heap.size w w' → L.filter (kpM id O) = L → DmP K B w (L.filter (kpM id O)) (.returned (.slice a n c)) w' from fun w' hb e => by rw [e]; exact ⟨a, c, by rw [hn], hM.later hb, hT.later hb, hb.mono hB⟩)
 have HR := hI_ (show 0 < n → ∃ g, a = some ⟨g, 0, none⟩ ∧ B ≤ g ∧ n ≤ c ∧ Mr w g L ∧ Off g xn xm am O from fun h0 => by
  obtain ⟨g, c', e, h1, h2, h3⟩ := Mr.of hC (by rw [hn]; exact h0)
  injection e with ea en ec
  subst ea ec
  exact ⟨g, rfl, h1, by rw [← hn]; exact h2, h3, hf g h1 h3.ty⟩)
 have HN := hI_ hn
 have HM := hI_ hM
 have HG := hI_ H
 clear hn hM H hC hf hT hfa en
 go_enter Tryz.func83, Tryz.ntmps83
 go_wp2_with fail
 refine (indexG_any xn xm id cm n c am a O hO L HN.out hl _ HG.out HM.out).mono ?_
 rintro e w1 ⟨⟨k, rfl, hk⟩, hb⟩
 rcases hk with ⟨rfl, hall⟩ | ⟨j0, x0, rfl, hx0, hg0, hlt0⟩
 · have HE := HF.out w1 hb (List.filter_eq_self.2 hall)
   have HE := hI_ HE
   clear hb hall
   go_wp2_with fail
   go_ret
   exact HE.out
 · have hj0 := (List.getElem?_eq_some_iff.1 hx0).1
   obtain ⟨g, rfl, hBg, hnc, hR, hoff⟩ := HR.out (by have := HN.out; omega)
   have HK0 := hI_ (Ks.start hx0 hg0 hlt0)
   have HR1 := hI_ (hR.later hb)
   have HG1 := hI_ (HG.out.later hb)
   have HB1 := hI_ (hb.mono hB)
   have HOF := hI_ hoff
   have hj0n : j0 < n := by have := HN.out; omega
   have i0 : ¬ (j0 : Int) = -1 := by omega
   have i0' : ((j0 : Int) == -1) = false := by first | (simp; done) | (simp; omega)
   clear hb hR hoff hx0 hg0 hlt0 hj0
   go_wp2_with fail
   go_loopw [5, 6] (fun u v wr => ∃ (i j : Nat) (C : List Mk), u = .int .i64 i ∧ v = .int .i64 j ∧ Ks (kpM id O) L C i j ∧ Mr wr g C ∧ Gn wr xn xm id am cm O ∧ Below B w wr) (fun _ v _ => n - (intOf v).toNat)
   case atStart => exact ⟨j0, j0 + 1, L, rfl, by go_num, HK0.out, HR1.out, HG1.out, HB1.out⟩
   case round =>
    obtain ⟨i, j, C, rfl, rfl, hks, hr, hgn, hb⟩ := hrel
    have hij := hks.lt
    have hjn : j ≤ n := by have := hks.le; have := HN.out; omega
    have HKS := hI_ hks
    have HRR := hI_ hr
    have HGG := hI_ hgn
    have HBB := hI_ hb
    clear hks hr hgn hb
    by_cases hlt : j < n
    · obtain ⟨x, hx⟩ : ∃ x, L[j]? = some x := ⟨_, List.getElem?_eq_getElem (by rw [HN.out]; exact hlt)⟩
      obtain ⟨p0, p1⟩ := HRR.out.c j x ((HKS.out.tl j (Nat.le_refl _)).trans hx)
      have HX := hI_ hx
      have i2 : (0 : Int) ≤ (j : Int) := by omega
      have i3 : (j : Int) < (n : Int) := by omega
      have i4 : (0 : Int) ≤ (i : Int) := by omega
      have i5 : (i : Int) < (n : Int) := by omega
      clear hx
      obtain ⟨W1, yv, hW1, hyv, BV, HV, ZV⟩ := bk_new wr #[.int .u64 x.id, .int .u64 x.n] 100
      have BV' : Below wr.heap.size wr W1 := hyv ▸ BV
      have HBV := hI_ (HBB.out.trans (BV'.mono (Nat.le_trans hB HBB.out.size)))
      have HRV := hI_ (HRR.out.later BV')
      have HGV := hI_ (HGG.out.later BV')
      clear BV BV'
      go_wp2_with (refine lBk rfl _ rfl rfl markT HV rfl ?_)
      refine (gone1_any x xn xm id cm am O hO _ HGV.out).mono ?_
      rintro e w2 ⟨rfl, hb2⟩
      have HB2 := hI_ (HBV.out.trans (hb2.mono (Nat.le_trans hB HBV.out.size)))
      have HR2 := hI_ (HRV.out.later hb2)
      have HG2 := hI_ (HGV.out.later hb2)
      replace HV := HV.later hb2
      clear hb2 p0 p1
      by_cases he : kpM id O x = false
      · rw [he]
        have HT := hI_ (HKS.out.skip HX.out he)
        clear he
        go_wp2_with fail
        go_roundw
        case rel => exact ⟨i, j + 1, C, rfl, by go_num, HT.out, HR2.out, HG2.out, HB2.out⟩
        case measure => simp [intOf]; omega
      · have he : kpM id O x = true := by simpa using he
        rw [he]
        have HT := hI_ (HKS.out.keep HX.out he)
        clear he
        have hiC : i < C.length := by have := HKS.out.len; have := HN.out; omega
        obtain ⟨q0, q1⟩ := HR2.out.c i _ (List.getElem?_eq_getElem hiC)
        have z0 := HR2.out.fz (i * 2)
        have z1 := HR2.out.fz (i * 2 + 1)
        have HP := hI_ (HR2.out.put hiC x)
        have HG3 := hI_ (HG2.out.grown (put2_grown w2 g i x) HOF.out)
        have HB3 := hI_ (HB2.out.grown (put2_grown w2 g i x) (Nat.le_trans hB HB2.out.size) (fun k e => by cases e; exact hBg))
        generalize C[i].id = o0 at q0
        generalize C[i].n = o1 at q1
        go_wp2_with (refine lBk rfl _ rfl rfl markT HV rfl ?_)
        go_roundw
        case rel => exact ⟨i + 1, j + 1, C.set i x, by go_num, by go_num, HT.out, HP.out, HG3.out, HB3.out⟩
        case measure => simp [intOf]; omega
    · have hjn' : j = n := by omega
      subst hjn'
      have hin : i ≤ j := by omega
      have hCl : C.length = j := by have := HKS.out.len; have := HN.out; omega
      have HD := hI_ (HKS.out.done HN.out.symm)
      obtain ⟨w3, hcl, hg3, hk3, ht3⟩ := clearM_run wr g (i * 2) (j - i) (c - i) (fun t ht => by
       obtain ⟨d0, _⟩ := HRR.out.c (i + t / 2) _ (List.getElem?_eq_getElem (by omega))
       obtain ⟨_, d1⟩ := HRR.out.c (i + t / 2) _ (List.getElem?_eq_getElem (by omega))
       rcases (by omega : i * 2 + t = (i + t / 2) * 2 ∨ i * 2 + t = (i + t / 2) * 2 + 1) with e | e
       · rw [e, d0]; rfl
       · rw [e, d1]; rfl) HRR.out.fz
      have hlen : (C.take i).length = i := by rw [List.length_take]; omega
      have HE := hI_ (show DmP K B w (L.filter (kpM id O)) (.returned (.slice (some ⟨g, 0, none⟩) i c)) w3 from by
       rw [← HD.out]
       refine ⟨some ⟨g, 0, none⟩, c, by rw [hlen], fun t x hx => ?_, fun _ q e => ?_, HBB.out.grown hg3 (Nat.le_trans hB HBB.out.size) (fun k e => by cases e; exact hBg)⟩
       · have ht := (List.getElem?_eq_some_iff.1 hx).1
         rw [List.length_take] at ht
         rw [List.getElem?_take_of_lt (by omega)] at hx
         obtain ⟨d0, d1⟩ := HRR.out.c t x hx
         refine ⟨g, 0, rfl, Nat.lt_of_lt_of_le HRR.out.lt hg3.size, ?_, ?_⟩
         · rw [Nat.zero_add, hk3 _ (by omega)]; exact d0
         · rw [Nat.zero_add, hk3 _ (by omega)]; exact d1
       · cases e
         exact ⟨Nat.lt_of_lt_of_le HRR.out.lt hg3.size, .inr (ht3 HRR.out.ty)⟩)
      have i2 : ¬ (j : Int) < (j : Int) := by omega
      have i4 : (0 : Int) ≤ (i : Int) := by omega
      have i5 : (i : Int) ≤ (j : Int) := by omega
      have i6 : (j : Int) ≤ (c : Int) := by omega
      have i7 : (i : Int) ≤ (c : Int) := by omega
      clear hg3 hk3 ht3 hCl hlen
      go_wp2_with fail
      go_ret
      exact HE.out
end Go.Proofs.YtdcpiaoadbbdoaaGreatDoor
