/- A leader marks the members of its group. -/
import Derived.Test.YtdcpiaoadbbdoaaGreatDoorRb
import Derived.Test.YtdcpiaoadbbdoaaGreatDoorQdm
import Derived.Test.YtdcpiaoadbbdoaaGreatDoorQmy
import Derived.Test.YtdcpiaoadbbdoaaGreatDoorQse
set_option maxRecDepth 100000
set_option maxHeartbeats 16000000
namespace Go.Proofs.YtdcpiaoadbbdoaaGreatDoor
open Go.RowKit

theorem pEndW_any (p : Pn) (d : Ad) (hb : p.g.base < 4611686018427387904) (hl : p.g.L.length * 24 ≤ 140737488351232) (K : Nat) (w : World) (hM : NdM K w p d) :
 Calls Tryz.prog 31 #[ndV p d] w fun e w' => e = .returned (.int .u64 (p.endI : Nat)) ∧ Below w.heap.size w w' := by
 obtain ⟨W, hW, B0, H0, Z0⟩ := nd_new w p d
 have hM0 := hM.later B0
 obtain ⟨c0, c1, c2, c3, c4, c5, c6, c7, c8, c9, c10, c11, c12, c13, c14, c15, c16, c17, c18⟩ := H0.c19
 unfold ndA at hW
 go_enter Tryz.func31, Tryz.ntmps31
 go_wp2_with fail
 refine (pLast_any _ _ _ _ _ _ p.g.L rfl (by omega) hb _ hM0.e).mono ?_
 rintro e w2 ⟨rfl, hb2⟩
 go_wp2_with fail
 go_ret
 exact ⟨rfl, B0.trans (hb2.mono B0.size)⟩
theorem gone_pair {K xn xm id cm n c : Nat} {am a : Option Addr} {O : List Nat} (hO : O.length ≤ 1000) {L : List Mk} (hn : L.length = n) (hl : n * 16 ≤ 140737488355328) {w w1 : World} (H : Gn w xn xm id am cm O) (hb : Below w.heap.size w w1) (hC : CqM w.heap.size w1 (.slice a n c) L) :
 Calls Tryz.prog 83 #[.slice a n c, .func (.func 82) #[] #[.pointer (some ⟨xn, 0, none⟩), .pointer (some ⟨xm, 0, none⟩)]] w1 fun e w' => (∃ a' c', e = .returned (.slice a' (L.filter (kpM id O)).length c') ∧ Ms w' a' (L.filter (kpM id O)) ∧ Ty K w' a' (L.filter (kpM id O)).length 100) ∧ Below w.heap.size w w' := by
 refine (deleteG_any K w.heap.size xn xm id cm n c am a O hO L hn (by omega) w1 hb.size (H.later hb) hC (fun g hg _ => ⟨fun e => by have := H.cl; omega, fun e => by have := H.ml; omega, fun h0 q eq e => by
  obtain ⟨b0, o0, e0, hb0⟩ := H.u.addr h0
  rw [e0] at eq; cases eq
  simp only at e; omega⟩)).mono ?_
 rintro e w' ⟨a', c', rfl, h1, h2, h3⟩
 exact ⟨⟨a', c', rfl, h1, h2⟩, hb.trans h3⟩
theorem oth_len' {p : Pn} (h : mayB p.c.V p.c.L = true) : p.oth.length ≤ 10 := oth_len p.conf p.id (conf_may h)
def rmk (p : Pn) (k : Nat) : List Mk × List Mk := (p.oth.take k).foldl (markStep p.endI) (p.next.filter (keepM p), p.mat.filter (keepM p))
theorem rmk_len {p : Pn} (h : Bd p) (k : Nat) : (rmk p k).1.length ≤ p.next.length + 10 ∧ (rmk p k).2.length ≤ p.mat.length + 10 := by
 have ho := oth_len' h.may
 have e1 : (p.next.filter (keepM p)).length ≤ p.next.length := List.length_filter_le _ _
 have e2 : (p.mat.filter (keepM p)).length ≤ p.mat.length := List.length_filter_le _ _
 obtain ⟨i1, i2, _, _⟩ := mark_step (endI_lt h) (p.oth.take k) (p.next.filter (keepM p), p.mat.filter (keepM p)) (fun x hx => h.nexts x (List.mem_filter.1 hx).1) (fun x hx => h.marks x (List.mem_filter.1 hx).1)
 simp only [List.length_take] at i1 i2
 unfold rmk
 constructor
 · omega
 · omega
theorem rmk_succ {p : Pn} {k q : Nat} (h : p.oth[k]? = some q) : rmk p (k + 1) = markStep p.endI (rmk p k) q := by
 unfold rmk
 rw [List.take_add_one, h, List.foldl_append]; rfl
theorem rmk_all (p : Pn) : remarkP p = { p with next := (rmk p p.oth.length).1, mat := (rmk p p.oth.length).2 } := by
 unfold rmk remarkP; rw [List.take_length]
theorem pRemark_any (p : Pn) (d : Ad) (hBd : Bd p) (K : Nat) (w : World) (hK : K ≤ w.heap.size) (hM : NdM K w p d) :
 Calls Tryz.prog 30 #[ndV p d] w (NvP K w (remarkP p)) := by
 obtain ⟨W, hW, B0, N0, Z0⟩ := nk_new w p d
 obtain ⟨W1, y, hW1, hy, B1, HR, Z1⟩ := bk_new W znA 34
 have HN := N0.later (hy ▸ B1)
 have HB := B0.trans (B1.mono (by have := Z0.out; omega))
 have hyn := hI_ (show w.heap.size < y by have := Z0.out; omega)
 clear B0 N0 B1
 unfold ndA at hW
 unfold znA at hW1
 have HM := hM.later HB
 have hnx := hBd.next
 have hmt := hBd.mat
 have hbs := hBd.base
 have hes := hBd.ents
 have HOL := hI_ (oth_len' hBd.may)
 clear hM
 go_enter Tryz.func30, Tryz.ntmps30
 go_wp2_with (first
  | (refine lBk rfl _ rfl rfl nodeT HN rfl ?_))
 refine (pOthers_any p d hBd K _ HM).mono ?_
 rintro e w2 ⟨ao, co, rfl, hUo, hUn, hb⟩
 replace HB := HB.trans (hb.mono HB.size)
 have HUN := hI_ (show 0 < p.oth.length → ∀ q, ao = some q → q.block ≠ w.heap.size from fun h0 q e e2 => by have := hUn h0 q e; have := HN.lt; omega)
 replace HN := HN.later hb
 replace HR := HR.later hb
 replace HM := HM.later hb
 have HU := hI_ hUo
 clear hb hUo hUn
 obtain ⟨w3, ym, hw3, hym, B3, HO, Z3⟩ := bk_new w2 #[.slice ao p.oth.length co] 23
 have hyo := hI_ (show w.heap.size < ym ∧ y < ym by have := HN.lt; have := HR.lt; omega)
 have B3' : Below w2.heap.size w2 w3 := hym ▸ B3
 replace HB := HB.trans (B3'.mono HB.size)
 replace HN := HN.later B3'
 replace HR := HR.later B3'
 replace HM := HM.later B3'
 replace HU := hI_ (HU.out.later B3')
 clear B3 B3'
 go_wp2_with (first
  | (refine lCc rfl _ rfl rfl (ocA rfl) (by assumption) rfl ?_))
 refine (cloneM_any _ _ _ p.next rfl (by omega) _ HM.n).mono ?_
 rintro e w4 ⟨v4, rfl, hc4, hb⟩
 obtain ⟨a4, c4, rfl, _, _, _, _⟩ := hc4.form
 have HG := hI_ (gone_pair (K := K) (xn := w.heap.size) (xm := ym) (id := p.id) (cm := co) (by have := HOL.out; omega) rfl (by omega) ⟨HN.bx.c 0 _ rfl, HN.lt, HO.bx.c 0 _ rfl, HO.lt, HU.out⟩ hb hc4)
 have hb4 := hb.size
 clear hc4
 have HNq := hI_ HN
 have HRq := hI_ HR
 have HOq := hI_ HO
 have HMq := hI_ HM
 clear HN HR HO HM
 go_wp2_with fail
 refine HG.out.mono ?_
 clear HG hb hb4
 rintro e w5 ⟨⟨a5, c5, rfl, hM5, hT5⟩, hb⟩
 have HN := HNq.out
 have HR := HRq.out
 have HO := HOq.out
 have HM := HMq.out
 clear HNq HRq HOq HMq
 replace HB := HB.trans (hb.mono HB.size)
 replace HN := HN.later hb
 replace HR := HR.later hb
 replace HO := HO.later hb
 replace HU := hI_ (HU.out.later hb)
 replace HM := HM.nxt hb (c := c5) hM5 hT5
 clear hb hM5 hT5
 obtain ⟨P5, hP5⟩ : ∃ P5 : Pn, P5 = { p with next := p.next.filter (kpM p.id p.oth) } := ⟨_, rfl⟩
 obtain ⟨D5, hD5⟩ : ∃ D5 : Ad, D5 = { d with n := ⟨a5, c5⟩ } := ⟨_, rfl⟩
 have HP5 := hI_ hP5
 have HD5 := hI_ hD5
 have HM5 := hI_ (show P5.mat = p.mat by rw [hP5])
 have hid5 := hI_ (show P5.id = p.id by rw [hP5])
 have hml5 : P5.mat.length * 16 ≤ 140737488353000 := by rw [hP5]; exact hmt
 clear hP5 hD5
 go_wp2_with (first
  | (refine sCc (v := .slice a5 (p.next.filter (kpM p.id p.oth)).length c5) rfl _ _ rfl rfl rfl ocM HN rfl rfl rfl ?_; intro w' hk hg; replace HR := HR.grown hg (by have := hyn.out; omega); replace HO := HO.grown hg (by have := hyo.out; omega); replace HU := hI_ (HU.out.grown hg HUN.out); replace HM := HM.grown hg hK HN.bx.ty bNd; replace HB := bGr HB hg HB.size (Nat.le_refl _); replace HN := hk; clear hk hg; (replace HN : Bk w' w.heap.size 34 (ndL P5 D5) := by rw [HP5.out, HD5.out]; exact HN); (replace HM : NdM K w' P5 D5 := by rw [HP5.out, HD5.out]; exact HM))
  | (refine lCc rfl _ rfl rfl (ocA rfl) (by assumption) rfl ?_))
 refine (cloneM_any _ _ _ P5.mat rfl (by omega) _ HM.m).mono ?_
 rintro e w6 ⟨v6, rfl, hc6, hb⟩
 obtain ⟨a6, c6, rfl, _, _, _, _⟩ := hc6.form
 have HG := hI_ (gone_pair (K := K) (xn := w.heap.size) (xm := ym) (id := p.id) (cm := co) (by have := HOL.out; omega) rfl (by omega) ⟨by rw [← hid5.out]; exact HN.bx.c 0 _ rfl, HN.lt, HO.bx.c 0 _ rfl, HO.lt, HU.out⟩ hb hc6)
 clear hc6
 have HNq := hI_ HN
 have HRq := hI_ HR
 have HOq := hI_ HO
 have HMq := hI_ HM
 clear HN HR HO HM
 go_wp2_with fail
 refine HG.out.mono ?_
 clear HG hb
 rintro e w7 ⟨⟨a7, c7, rfl, hM7, hT7⟩, hb⟩
 have HN := HNq.out
 have HR := HRq.out
 have HO := HOq.out
 have HM := HMq.out
 clear HNq HRq HOq HMq
 replace HB := HB.trans (hb.mono HB.size)
 replace HN := HN.later hb
 replace HR := HR.later hb
 replace HO := HO.later hb
 replace HU := hI_ (HU.out.later hb)
 replace HM := HM.mat hb (c := c7) hM7 hT7
 clear hb hM7 hT7
 obtain ⟨P7, hP7⟩ : ∃ P7 : Pn, P7 = { P5 with mat := P5.mat.filter (kpM p.id p.oth) } := ⟨_, rfl⟩
 obtain ⟨D7, hD7⟩ : ∃ D7 : Ad, D7 = { D5 with m := ⟨a7, c7⟩ } := ⟨_, rfl⟩
 have HP7 := hI_ hP7
 have HD7 := hI_ hD7
 have HPS := hI_ (show P7 = { p with next := (rmk p 0).1, mat := (rmk p 0).2 } by rw [hP7, HM5.out, HP5.out]; rfl)
 clear hP7 hD7
 go_wp2_with (first
  | (refine sCc (v := .slice a7 (P5.mat.filter (kpM p.id p.oth)).length c7) rfl _ _ rfl rfl rfl ocM HN rfl rfl rfl ?_; intro w' hk hg; replace HR := HR.grown hg (by have := hyn.out; omega); replace HO := HO.grown hg (by have := hyo.out; omega); replace HU := hI_ (HU.out.grown hg HUN.out); replace HM := HM.grown hg hK HN.bx.ty bNd; replace HB := bGr HB hg HB.size (Nat.le_refl _); replace HN := hk; clear hk hg; (replace HN : Bk w' w.heap.size 34 (ndL P7 D7) := by rw [HP7.out, HD7.out]; exact HN); (replace HM : NdM K w' P7 D7 := by rw [HP7.out, HD7.out]; exact HM))
  | (refine lCc rfl _ rfl rfl (ocA rfl) (by assumption) rfl ?_))
 have HKK := hI_ hK
 have HRM := hI_ (fun k => rmk_len hBd k)
 have HUL := hI_ (show p.oth.length ≤ 140737488351232 by have := HOL.out; omega)
 have hol47 : p.oth.length ≤ 140737488351232 := HUL.out
 go_loopw [26] (fun u wr => ∃ (k : Nat) (P : Pn) (D : Ad), k ≤ p.oth.length ∧ u = .int .i64 k ∧ P = { p with next := (rmk p k).1, mat := (rmk p k).2 } ∧ Bk wr w.heap.size 34 (ndL P D) ∧ Bk wr y 34 znA.toList ∧ NdM K wr P D ∧ Us wr ao p.oth ∧ Below w.heap.size w wr) (fun u _ => p.oth.length - (intOf u).toNat)
 case atStart => exact ⟨0, P7, D7, Nat.zero_le _, rfl, HPS.out, HN, HR, HM, HU.out, HB⟩
 case round =>
  obtain ⟨k, P, D, hk, rfl, hP, HN, HR, HM, hU, HB⟩ := hrel
  have HU := hI_ hU
  have HPE := hI_ hP
  have hnl : P.next.length * 16 ≤ 140737488353200 := by have := (HRM.out k).1; rw [hP]; show (rmk p k).1.length * 16 ≤ _; omega
  have hml : P.mat.length * 16 ≤ 140737488353200 := by have := (HRM.out k).2; rw [hP]; show (rmk p k).2.length * 16 ≤ _; omega
  have hpb : P.g.base < 4611686018427387904 := by rw [hP]; exact hbs
  have hpe : P.g.L.length * 24 ≤ 140737488351232 := by rw [hP]; exact hes
  have hei := hI_ (show P.endI = p.endI by rw [hP]; rfl)
  have HPN := hI_ (show P.next = (rmk p k).1 by rw [hP])
  have HPM := hI_ (show P.mat = (rmk p k).2 by rw [hP])
  clear hP hU HPS HP7 HD7
  by_cases hlt : k < p.oth.length
  · obtain ⟨x, hx⟩ : ∃ x, p.oth[k]? = some x := ⟨_, List.getElem?_eq_getElem hlt⟩
    obtain ⟨b, off, rfl, hb0, p0⟩ := HU.out k x hx
    have HST := hI_ (rmk_succ hx)
    have i0 : (0 : Int) ≤ (k : Int) := by omega
    have i1 : (k : Int) < (p.oth.length : Int) := by omega
    clear hx
    go_wp2_with (first
     | (refine lCc rfl _ rfl rfl (ocA rfl) (by assumption) rfl ?_))
    refine (pMark_any x _ _ _ P.next rfl (by omega) _ HM.n).mono ?_
    rintro e w8 ⟨rfl, hb⟩
    replace HB := HB.trans (hb.mono HB.size)
    replace HN := HN.later hb
    replace HR := HR.later hb
    replace HM := HM.later hb
    replace HU := hI_ (HU.out.later hb)
    clear hb p0 hb0
    obtain ⟨q1, q2, hq⟩ : ∃ q1 q2, markN x P.next = (q1, q2) := ⟨_, _, rfl⟩
    have HQ := hI_ hq
    rw [hq]
    clear hq
    cases q2
    case true =>
     have HP1 := hI_ (show P = { p with next := (rmk p (k + 1)).1, mat := (rmk p (k + 1)).2 } by
      rw [HST.out]; unfold markStep; rw [← HPN.out, HQ.out, if_pos rfl]; exact HPE.out)
     go_wp2_with fail
     go_roundw
     case rel => exact ⟨k + 1, P, D, by omega, by go_num, HP1.out, HN, HR, HM, HU.out, HB⟩
     case measure => simp [intOf]; omega
    case false =>
     go_wp2_with fail
     refine wp_region_z (S := fun w' => Bk w' w.heap.size 34 (ndL P D) ∧ Bk w' y 34 znA.toList ∧ NdM K w' P D ∧ Us w' (some ⟨b, off, none⟩) p.oth ∧ Below w.heap.size w w') 7 (by kernel_rfl) (⟨HN.later ((Below.refl _ _).drew), HR.later ((Below.refl _ _).drew), HM.later ((Below.refl _ _).drew), HU.out.later ((Below.refl _ _).drew), HB.drew⟩) (fun HS => ?_)
     refine anyZ_take (i := 0) (v := ?_) rfl (by kernel_rfl) rfl (by kernel_rfl) (by kernel_rfl) (by kernel_rfl) (fun _ _ _ h => h) (Or.inl ⟨by rfl, ?hy0⟩) HS ?_
     case hy0 => (intro w0 hSw; go_simp; (try with_reducible rfl))
     try simp only [ly, Act.put]
     refine anyZ_take (i := 1) (v := (.slice D.n.a P.next.length D.n.c)) rfl (by kernel_rfl) rfl (by kernel_rfl) (by kernel_rfl) (by kernel_rfl) (fun _ _ _ h => h) (Or.inl ⟨by rfl, ?hy1⟩) HS ?_
     case hy1 => (intro w0 hSw; exact exec_load_c _ rfl rfl ocM hSw.1 rfl)
     try simp only [ly, Act.put]
     refine anyZ_take (i := 2) (v := ?_) rfl (by kernel_rfl) rfl (by kernel_rfl) (by kernel_rfl) (by kernel_rfl) (fun _ _ _ h => h) (Or.inl ⟨by rfl, ?hy2⟩) HS ?_
     case hy2 => (intro w0 hSw; go_simp; (try with_reducible rfl))
     try simp only [ly, Act.put]
     refine anyZ_take (i := 3) (v := (.agg (ndL P D).toArray)) rfl (by kernel_rfl) rfl (by kernel_rfl) (by kernel_rfl) (by kernel_rfl) (fun _ _ _ h => h) (Or.inl ⟨by rfl, ?hy3⟩) HS ?_
     case hy3 => (intro w0 hSw; exact eLb _ rfl rfl nodeT hSw.1 rfl)
     try simp only [ly, Act.put]
     refine anyZ_one (i := 4) (by kernel_rfl) rfl (fun KK hK => ?_)
     go_simp
     refine (pEndW_any P D hpb hpe K _ HS.2.2.1).mono ?_
     rintro e w5 ⟨rfl, hb⟩
     go_wp2_with fail
     refine hK.out _ _ ⟨HS.1.later hb, HS.2.1.later hb, HS.2.2.1.later hb, HS.2.2.2.1.later hb, HS.2.2.2.2.trans (hb.mono HS.2.2.2.2.size)⟩ (fun HS => ?_)
     clear hK
     try simp only [ly, Act.put]
     refine anyZ_one (i := 5) (by kernel_rfl) rfl (fun KK hK => ?_)
     go_simp
     refine (pSet_any x P.endI _ _ _ P.next rfl (by omega) _ HS.2.2.1.n).mono ?_
     rintro e w6 ⟨v6, rfl, hcm, hb⟩
     obtain ⟨a6, c6, rfl, hM6, hT6⟩ := hcm.ty K
     have HM6 := HS.2.2.1.nxt hb (c := c6) hM6 hT6
     clear hM6 hT6 hcm
     go_wp2_with fail
     refine hK.out _ _ ⟨HS.1.later hb, HS.2.1.later hb, HS.2.2.1.later hb, HS.2.2.2.1.later hb, HS.2.2.2.2.trans (hb.mono HS.2.2.2.2.size)⟩ (fun HS => ?_)
     clear hK
     try simp only [ly, Act.put]
     refine anyZ_take (i := 6) (v := ?_) rfl (by kernel_rfl) rfl (by kernel_rfl) (by kernel_rfl) (by kernel_rfl) (fun _ _ _ h => h) (Or.inl ⟨by rfl, ?hy6⟩) HS ?_
     case hy6 => (intro w0 hSw; go_simp; (try with_reducible rfl))
     try simp only [ly, Act.put]
     refine anyZ_last (by kernel_rfl) rfl (by kernel_rfl) (fun KK hK => ?_)
     rw [if_pos (by rfl)]
     refine wp_store_c (v := .slice a6 (setN x P.endI P.next).length c6) _ _ rfl rfl rfl ocM HS.1 rfl rfl rfl ?_
     intro w' hk hg
     have HR := HS.2.1.grown hg (by have := hyn.out; omega)
     have HM := HM6.grown hg HKK.out HS.1.bx.ty bNd
     have HU := hI_ (HS.2.2.2.1.grown hg HUN.out)
     have HB := bGr HS.2.2.2.2 hg HS.2.2.2.2.size (Nat.le_refl _)
     have HN := hk
     clear hk hg HM6
     refine hK.out _ _ ?_
     clear HS
     clear hK
     try simp only [ly, Act.put]
     obtain ⟨P9, hP9⟩ : ∃ P9 : Pn, P9 = { P with next := setN x P.endI P.next } := ⟨_, rfl⟩
     obtain ⟨D9, hD9⟩ : ∃ D9 : Ad, D9 = { D with n := ⟨a6, c6⟩ } := ⟨_, rfl⟩
     have HP9 := hI_ hP9
     have HD9 := hI_ hD9
     have HM9 := hI_ (show P9.mat = P.mat by rw [hP9])
     have hml9 : P9.mat.length * 16 ≤ 140737488353200 := by rw [hP9]; exact hml
     replace HN : Bk w' w.heap.size 34 (ndL P9 D9) := by rw [hP9, hD9]; exact HN
     replace HM : NdM K w' P9 D9 := by rw [hP9, hD9]; exact HM
     clear hP9 hD9
     go_wp2_with (first
      | (refine lCc rfl _ rfl rfl (ocA rfl) (by assumption) rfl ?_))
     refine (pSet_any x 0 _ _ _ P9.mat rfl (by omega) _ HM.m).mono ?_
     rintro e w9 ⟨v9, rfl, hcv, hb⟩
     obtain ⟨a9, c9, rfl, hV9, hT9⟩ := hcv.ty K
     replace HB := HB.trans (hb.mono HB.size)
     replace HN := HN.later hb
     replace HR := HR.later hb
     replace HU := hI_ (HU.out.later hb)
     replace HM := HM.mat hb (c := c9) hV9 hT9
     clear hb hcv hV9 hT9
     obtain ⟨PX, hPX⟩ : ∃ PX : Pn, PX = { P9 with mat := setN x 0 P9.mat } := ⟨_, rfl⟩
     obtain ⟨DX, hDX⟩ : ∃ DX : Ad, DX = { D9 with m := ⟨a9, c9⟩ } := ⟨_, rfl⟩
     have HPX := hI_ hPX
     have HDX := hI_ hDX
     have HP1 := hI_ (show PX = { p with next := (rmk p (k + 1)).1, mat := (rmk p (k + 1)).2 } by
      rw [HST.out]; unfold markStep; rw [← HPN.out, HQ.out, if_neg (by simp), hPX, HM9.out, HP9.out, hei.out, HPM.out, HPE.out])
     clear hPX hDX
     go_wp2_with (first
      | (refine sCc (v := .slice a9 (setN x 0 P9.mat).length c9) rfl _ _ rfl rfl rfl ocM HN rfl rfl rfl ?_; intro w' hk hg; replace HR := HR.grown hg (by have := hyn.out; omega); replace HU := hI_ (HU.out.grown hg HUN.out); replace HM := HM.grown hg HKK.out HN.bx.ty bNd; replace HB := bGr HB hg HB.size (Nat.le_refl _); replace HN := hk; clear hk hg; (replace HN : Bk w' w.heap.size 34 (ndL PX DX) := by rw [HPX.out, HDX.out]; exact HN); (replace HM : NdM K w' PX DX := by rw [HPX.out, HDX.out]; exact HM)))
     go_roundw
     case rel => exact ⟨k + 1, PX, DX, by omega, by go_num, HP1.out, HN, HR, HM, HU.out, HB⟩
     case measure => simp [intOf]; omega
  · obtain rfl : k = p.oth.length := by omega
    have i1 : ¬ (p.oth.length : Int) < (p.oth.length : Int) := by omega
    have HAL := hI_ (show remarkP p = P by rw [rmk_all]; exact HPE.out.symm)
    go_wp2_with (first
     | (refine lBk rfl _ rfl rfl nodeT HN rfl ?_)
     | (refine sBk rfl _ _ rfl rfl rfl nodeT HR rfl rfl rfl ?_; intro w' hk hg; replace HN := HN.grown hg (by have := hyn.out; omega); replace HM := HM.grown hg (by have := hyn.out; omega) HR.bx.ty bNd; replace HB := bGr HB hg HB.size (by have := hyn.out; omega); replace HR := hk; clear hk hg))
    refine bodyPost_ret (v := ndV P D) (by rw [results_bk Tryz.results30 _ rfl nodeT HR rfl]) rfl ?_
    rw [HAL.out]
    exact ⟨D, rfl, HM, HB⟩
theorem rmOk : RmOk := fun p d hBd K w hK hM => pRemark_any p d hBd K w hK hM
end Go.Proofs.YtdcpiaoadbbdoaaGreatDoor
