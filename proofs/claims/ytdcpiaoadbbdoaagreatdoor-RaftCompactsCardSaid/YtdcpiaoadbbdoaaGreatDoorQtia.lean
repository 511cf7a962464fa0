/- A tick: one way. -/
import Derived.Test.YtdcpiaoadbbdoaaGreatDoorRb
import Derived.Test.YtdcpiaoadbbdoaaGreatDoorQrm
import Derived.Test.YtdcpiaoadbbdoaaGreatDoorQw
set_option maxRecDepth 100000
set_option maxHeartbeats 16000000
namespace Go.Proofs.YtdcpiaoadbbdoaaGreatDoor
open Go.RowKit

theorem pTick_1 (p : Pn) (d : Ad) (hBd : Bd p) (hhd : p.heard ≤ 10) (draw : Nat) (K : Nat) (w : World) (hK : K ≤ w.heap.size) (hM : NdM K w p d) (hh : 0 < p.heard) :
 Calls Tryz.prog 22 #[ndV p d, .int .u64 draw] w (NmP K w (tickP p draw)) := by
 obtain ⟨W, hW, B0, N0, Z0⟩ := nk_new w p d
 obtain ⟨W1, y, hW1, hy, B1, HR, Z1⟩ := bk_new W znA 34
 have HN := N0.later (hy ▸ B1)
 have HB := B0.trans (B1.mono (by have := Z0.out; omega))
 have hyn := hI_ (show w.heap.size < y by have := Z0.out; omega)
 clear B0 N0 B1
 unfold ndA at hW
 unfold znA at hW1
 have HM := hM.later HB
 obtain ⟨P1, hP1⟩ : ∃ P1 : Pn, P1 = lessH p := ⟨_, rfl⟩
 have HP1 := hI_ hP1
 have hb1 : Bd P1 := by rw [hP1]; exact ⟨hBd.id, hBd.may, hBd.term, hBd.vote, hBd.base, hBd.bt, hBd.snap, hBd.ents, hBd.data, hBd.commit, hBd.voices, hBd.ids, hBd.next, hBd.mat, hBd.marks, hBd.nexts⟩
 have HRL := hI_ (show p.role = P1.role by rw [hP1]; rfl)
 have HWL := hI_ (show p.wait = P1.wait by rw [hP1]; rfl)
 obtain ⟨wv, hwv⟩ : ∃ wv, IntKind.i64.wrap (P1.wait - 1) = wv := ⟨_, rfl⟩
 have HWV := hI_ (show IntKind.i64.wrap (p.wait - 1) = wv by rw [HWL.out]; exact hwv)
 obtain ⟨dn, hdn⟩ : ∃ dn : Nat, draw % 10 = dn := ⟨_, rfl⟩
 obtain ⟨dv, hdv⟩ : ∃ dv : Int, 10 + (dn : Int) = dv := ⟨_, rfl⟩
 have HDV := hI_ (show (10 + ((draw % 10 : Nat) : Int)) = dv by rw [hdn]; exact hdv)
 have hrem : (draw : Int).tmod 10 = (dn : Int) := by rw [← hdn]; exact Int.ofNat_tmod draw 10 |>.symm ▸ rfl
 have wdn : IntKind.i64.wrap (dn : Int) = (dn : Int) := by rw [IntKind.wrap_i64]; omega
 have wdv : IntKind.i64.wrap (10 + (dn : Int)) = dv := by rw [IntKind.wrap_i64]; omega
 clear hM hP1 hdn hdv
 go_enter Tryz.func22, Tryz.ntmps22
 have whd : IntKind.i64.wrap (p.heard - 1) = p.heard - 1 := by rw [IntKind.wrap_i64]; omega
 have HPL := hI_ (show P1 = { p with heard := p.heard - 1 } by rw [HP1.out]; unfold lessH; rw [if_pos hh])
 by_cases hr : P1.role = 3
 case pos =>
  have gr : (P1.role == 3) = true := by simp [hr]
  have HQ := hI_ (show tickP p draw = beatP P1 by unfold tickP; rw [if_pos (by rw [HRL.out]; exact hr), HP1.out])
  clear hr
  go_wp2_with (first
   | (refine sCc (v := .int .i64 (p.heard - 1)) rfl _ _ rfl rfl rfl ocI HN rfl rfl rfl ?_; intro w' hk hg; replace HR := HR.grown hg (by have := hyn.out; omega); replace HM := HM.grown hg hK HN.bx.ty bNd; replace HB := bGr HB hg HB.size (Nat.le_refl _); replace HN := hk; clear hk hg; (replace HN : Bk w' w.heap.size 34 (ndL P1 d) := by rw [HPL.out]; exact HN); (replace HM : NdM K w' P1 d := by rw [HPL.out]; exact HM.same rfl rfl rfl rfl rfl))
   | (refine lCc rfl _ rfl rfl (ocA rfl) (by assumption) rfl ?_)
   | (refine lBk rfl _ rfl rfl nodeT HN rfl ?_))
  have HSZ := hI_ HB.size
  refine (pBeat_any P1 d hb1 K _ (Nat.le_trans hK HB.size) HM).mono ?_
  obtain ⟨P3, M3, h3⟩ : ∃ P3 M3, beatP P1 = (P3, M3) := ⟨_, _, rfl⟩
  have HQ2 := hI_ (HQ.out.trans h3)
  rw [h3]
  clear h3 HQ
  rintro e w6 ⟨D3, v, O, rfl, hm3, hC, hO, hb⟩
  replace HB := HB.trans (hb.mono HB.size)
  replace HR := HR.later hb
  replace HM := hm3
  replace hC := hC.mono HSZ.out
  simp only at hO HM
  have HO := hI_ hO
  clear hb hm3 hO HN
  go_wp2_with (first
   | (refine sBk rfl _ _ rfl rfl rfl nodeT HR rfl rfl rfl ?_; intro w' hk hg; replace HM := HM.grown hg (by have := hyn.out; omega) HR.bx.ty bNd; replace hC := hC.box hg HR.bx.ty boxNm; replace HB := bGr HB hg HB.size (by have := hyn.out; omega); replace HR := hk; clear hk hg))
  refine bodyPost_ret (v := .tuple #[ndV P3 D3, v]) (by rw [rBt Tryz.results22 _ rfl nodeT HR rfl]; rfl) rfl ?_
  rw [HQ2.out]
  exact ⟨D3, v, O, rfl, HM, hC, HO.out, HB⟩
 case neg =>
  have gr : (P1.role == 3) = false := by simp; omega
  have HRN := hI_ hr
  clear hr
  by_cases hw1 : 1 ≤ wv
  case pos =>
   have HQ := hI_ (show tickP p draw = ({ P1 with wait := wv }, []) by unfold tickP; rw [if_neg (by rw [HRL.out]; exact HRN.out), HWV.out, if_pos hw1, HP1.out])
   go_wp2_with (first
    | (refine sCc (v := .int .i64 (p.heard - 1)) rfl _ _ rfl rfl rfl ocI HN rfl rfl rfl ?_; intro w' hk hg; replace HR := HR.grown hg (by have := hyn.out; omega); replace HM := HM.grown hg hK HN.bx.ty bNd; replace HB := bGr HB hg HB.size (Nat.le_refl _); replace HN := hk; clear hk hg; (replace HN : Bk w' w.heap.size 34 (ndL P1 d) := by rw [HPL.out]; exact HN); (replace HM : NdM K w' P1 d := by rw [HPL.out]; exact HM.same rfl rfl rfl rfl rfl))
    | (refine sCc (v := .int .i64 wv) rfl _ _ rfl rfl rfl ocI HN rfl rfl rfl ?_; intro w' hk hg; replace HR := HR.grown hg (by have := hyn.out; omega); replace HM := HM.grown hg hK HN.bx.ty bNd; replace HB := bGr HB hg HB.size (Nat.le_refl _); replace HN := hk; clear hk hg)
    | (refine lCc rfl _ rfl rfl (ocA rfl) (by assumption) rfl ?_)
    | (refine lBk rfl _ rfl rfl nodeT HN rfl ?_)
    | (refine sBk rfl _ _ rfl rfl rfl nodeT HR rfl rfl rfl ?_; intro w' hk hg; replace HN := HN.grown hg (by have := hyn.out; omega); replace HM := HM.grown hg (by have := hyn.out; omega) HR.bx.ty bNd; replace HB := bGr HB hg HB.size (by have := hyn.out; omega); replace HR := hk; clear hk hg))
   refine bodyPost_ret (v := .tuple #[ndV { P1 with wait := wv } d, .slice none 0 0]) (by rw [rBt Tryz.results22 _ rfl nodeT HR rfl]; rfl) rfl ?_
   rw [HQ.out]
   exact ⟨d, _, [], rfl, HM.same rfl rfl rfl rfl rfl, CqG.nil _ _ none, rfl, HB⟩
  case neg =>
   obtain ⟨P5, hP5⟩ : ∃ P5 : Pn, P5 = { P1 with span := dv, wait := dv } := ⟨_, rfl⟩
   have HP5 := hI_ hP5
   have hb5 : Bd P5 := by rw [hP5]; exact ⟨hb1.id, hb1.may, hb1.term, hb1.vote, hb1.base, hb1.bt, hb1.snap, hb1.ents, hb1.data, hb1.commit, hb1.voices, hb1.ids, hb1.next, hb1.mat, hb1.marks, hb1.nexts⟩
   have HVL := hI_ (show P5.conf.V.length ≤ 140737488351232 by obtain ⟨⟨_, h1, _⟩, _⟩ := mayB_iff.1 (conf_may hb5.may); omega)
   have HTQ := hI_ (show tickP p draw = if 4611686018427387903 ≤ P5.term ∨ hasN P5.id P5.conf.V = false then (P5, []) else askP P5 by
    unfold tickP; rw [if_neg (by rw [HRL.out]; exact HRN.out), HWV.out, if_neg hw1, hP5, HP1.out, HDV.out]; rfl)
   clear hP5
   go_wp2_with (first
    | (refine sCc (v := .int .i64 (p.heard - 1)) rfl _ _ rfl rfl rfl ocI HN rfl rfl rfl ?_; intro w' hk hg; replace HR := HR.grown hg (by have := hyn.out; omega); replace HM := HM.grown hg hK HN.bx.ty bNd; replace HB := bGr HB hg HB.size (Nat.le_refl _); replace HN := hk; clear hk hg; (replace HN : Bk w' w.heap.size 34 (ndL P1 d) := by rw [HPL.out]; exact HN); (replace HM : NdM K w' P1 d := by rw [HPL.out]; exact HM.same rfl rfl rfl rfl rfl))
    | (refine sCc (v := .int .i64 wv) rfl _ _ rfl rfl rfl ocI HN rfl rfl rfl ?_; intro w' hk hg; replace HR := HR.grown hg (by have := hyn.out; omega); replace HM := HM.grown hg hK HN.bx.ty bNd; replace HB := bGr HB hg HB.size (Nat.le_refl _); replace HN := hk; clear hk hg)
    | (refine sCc (v := .int .i64 dv) rfl _ _ rfl rfl rfl ocI HN rfl rfl rfl ?_; intro w' hk hg; replace HR := HR.grown hg (by have := hyn.out; omega); replace HM := HM.grown hg hK HN.bx.ty bNd; replace HB := bGr HB hg HB.size (Nat.le_refl _); replace HN := hk; clear hk hg)
    | (refine lCc rfl _ rfl rfl (ocA rfl) (by assumption) rfl ?_))
   replace HN : Bk w' w.heap.size 34 (ndL P5 d) := by rw [HP5.out]; exact HN
   replace HM : NdM K w' P5 d := by rw [HP5.out]; exact HM.same rfl rfl rfl rfl rfl
   by_cases ht : 4611686018427387903 ≤ P5.term
   case pos =>
    have gt : decide ((4611686018427387903 : Int) ≤ (P5.term : Int)) = true := by simp; omega
    have HQ := hI_ (show tickP p draw = (P5, []) by rw [HTQ.out, if_pos (.inl ht)])
    replace HR := HR.later ((Below.refl _ _).drew)
    refine wp_region_held_drew (S := fun w' => Bk w' w.heap.size 34 (ndL P5 d) ∧ NdM K w' P5 d ∧ Below w.heap.size w w') (by kernel_rfl) (⟨HN.later ((Below.refl _ _).drew), HM.later ((Below.refl _ _).drew), HB.drew⟩) (fun HS => ?_)
    refine tkp (i := 0) rfl HS ?_
    try simp only [ly, Act.put]
    refine tkp (i := 1) rfl HS ?_
    refine tkh (i := 2) (v := (.int .u64 P5.term)) rfl ⟨by rfl, fun _ hSw => exec_load_c _ rfl rfl ocU hSw.1 rfl⟩ HS ?_
    refine tkh (i := 3) (v := (.bool true)) rfl ⟨by rfl, ?h3⟩ HS ?_
    case h3 => (intro _ hSw; go_simp; (try with_reducible rfl))
    try simp only [ly, Act.put]
    refine tkp (i := 4) rfl HS ?_
    try simp only [ly, Act.put]
    refine wpAnyH_take (i := 5) (v := undef) rfl (by kernel_rfl) (by kernel_rfl) (by kernel_rfl) (fun _ _ _ h => h) (Or.inr ⟨by rfl, rfl⟩) HS ?_
    try simp only [ly, Act.put]
    refine wpAnyH_take (i := 6) (v := undef) rfl (by kernel_rfl) (by kernel_rfl) (by kernel_rfl) (fun _ _ _ h => h) (Or.inr ⟨by rfl, rfl⟩) HS ?_
    try simp only [ly, Act.put]
    refine wpAnyH_take (i := 7) (v := undef) rfl (by kernel_rfl) (by kernel_rfl) (by kernel_rfl) (fun _ _ _ h => h) (Or.inr ⟨by rfl, rfl⟩) HS ?_
    try simp only [ly, Act.put]
    refine wpAnyH_take (i := 8) (v := undef) rfl (by kernel_rfl) (by kernel_rfl) (by kernel_rfl) (fun _ _ _ h => h) (Or.inr ⟨by rfl, rfl⟩) HS ?_
    try simp only [ly, Act.put]
    refine wpAnyH_take (i := 9) (v := undef) rfl (by kernel_rfl) (by kernel_rfl) (by kernel_rfl) (fun _ _ _ h => h) (Or.inr ⟨by rfl, rfl⟩) HS ?_
    try simp only [ly, Act.put]
    refine wpAnyH_take (i := 10) (v := undef) rfl (by kernel_rfl) (by kernel_rfl) (by kernel_rfl) (fun _ _ _ h => h) (Or.inr ⟨by rfl, rfl⟩) HS ?_
    try simp only [ly, Act.put]
    refine wpAnyH_take (i := 11) (v := undef) rfl (by kernel_rfl) (by kernel_rfl) (by kernel_rfl) (fun _ _ _ h => h) (Or.inr ⟨by rfl, rfl⟩) HS ?_
    try simp only [ly, Act.put]
    refine tkp (i := 12) rfl HS ?_
    try simp only [ly, Act.put]
    refine wpAnyH_done (by kernel_rfl) ?_ _
    replace HN := HS.1
    replace HM := HS.2.1
    replace HB := HS.2.2
    clear HS
    go_wp2_with (first
     | (refine lBk rfl _ rfl rfl nodeT HN rfl ?_)
     | (refine sBk rfl _ _ rfl rfl rfl nodeT HR rfl rfl rfl ?_; intro w' hk hg; replace HN := HN.grown hg (by have := hyn.out; omega); replace HM := HM.grown hg (by have := hyn.out; omega) HR.bx.ty bNd; replace HB := bGr HB hg HB.size (by have := hyn.out; omega); replace HR := hk; clear hk hg))
    refine bodyPost_ret (v := .tuple #[ndV P5 d, .slice none 0 0]) (by rw [rBt Tryz.results22 _ rfl nodeT HR rfl]; rfl) rfl ?_
    rw [HQ.out]
    exact ⟨d, _, [], rfl, HM, CqG.nil _ _ none, rfl, HB⟩
   case neg =>
    have gt : decide ((4611686018427387903 : Int) ≤ (P5.term : Int)) = false := by simp; omega
    replace HR := HR.later ((Below.refl _ _).drew)
    refine wp_region_held_drew (S := fun w' => Bk w' w.heap.size 34 (ndL P5 d) ∧ NdM K w' P5 d ∧ Below w.heap.size w w') (by kernel_rfl) (⟨HN.later ((Below.refl _ _).drew), HM.later ((Below.refl _ _).drew), HB.drew⟩) (fun HS => ?_)
    refine tkp (i := 0) rfl HS ?_
    try simp only [ly, Act.put]
    refine tkp (i := 1) rfl HS ?_
    refine tkh (i := 2) (v := (.int .u64 P5.term)) rfl ⟨by rfl, fun _ hSw => exec_load_c _ rfl rfl ocU hSw.1 rfl⟩ HS ?_
    refine tkh (i := 3) (v := (.bool false)) rfl ⟨by rfl, ?h3⟩ HS ?_
    case h3 => (intro _ hSw; go_simp; (try with_reducible rfl))
    try simp only [ly, Act.put]
    refine tkp (i := 4) rfl HS ?_
    refine tkh (i := 5) (v := (.agg (ndL P5 d).toArray)) rfl ⟨by rfl, fun _ hSw => eLb _ rfl rfl nodeT hSw.1 rfl⟩ HS ?_
    try simp only [ly, Act.put]
    refine tkp (i := 8) rfl HS ?_
    refine tkh (i := 9) (v := (.int .u64 P5.id)) rfl ⟨by rfl, fun _ hSw => exec_load_c _ rfl rfl ocU hSw.1 rfl⟩ HS ?_
    try simp only [ly, Act.put]
    refine onh (r := 6) (by kernel_rfl) rfl (fun KK hK => ?_)
    go_simp
    refine (pConf_any P5 d hb5 K _ HS.2.1).mono ?_
    rintro e w2 ⟨s1, s2, rfl, hU1, hU2, hb⟩
    have HU1 := hI_ hU1
    clear hU1 hU2
    replace HR := HR.later hb
    go_wp2_with fail
    refine hK.out _ _ ⟨HS.1.later hb, HS.2.1.later hb, HS.2.2.trans (hb.mono HS.2.2.size)⟩ (fun HS => ?_)
    clear hK
    refine tkh (i := 7) (v := (.slice s1.a P5.conf.V.length s1.c)) rfl ⟨by rfl, ?h7⟩ HS ?_
    case h7 => (intro _ hSw; go_simp; rw [fldV]; rfl)
    try simp only [ly, Act.put]
    refine onh (r := 10) (by kernel_rfl) rfl (fun KK hK => ?_)
    go_simp
    refine (pContains_any P5.id _ _ _ P5.conf.V rfl HVL.out _ HU1.out).mono ?_
    rintro e w3 ⟨rfl, rfl⟩
    go_wp2_with fail
    refine hK.out _ _ HS (fun HS => ?_)
    clear hK
    try simp only [ly, Act.put]
    refine tkp (i := 11) rfl HS ?_
    try simp only [ly, Act.put]
    refine tkp (i := 12) rfl HS ?_
    try simp only [ly, Act.put]
    refine wpAnyH_done (by kernel_rfl) ?_ _
    replace HN := HS.1
    replace HM := HS.2.1
    replace HB := HS.2.2
    clear HS
    by_cases hh : hasN P5.id P5.conf.V = true
    case neg =>
     have hh : hasN P5.id P5.conf.V = false := by simpa using hh
     have HQ := hI_ (show tickP p draw = (P5, []) by rw [HTQ.out, if_pos (.inr hh)])
     rw [hh]
     clear hh
     go_wp2_with (first
      | (refine lBk rfl _ rfl rfl nodeT HN rfl ?_)
      | (refine sBk rfl _ _ rfl rfl rfl nodeT HR rfl rfl rfl ?_; intro w' hk hg; replace HN := HN.grown hg (by have := hyn.out; omega); replace HM := HM.grown hg (by have := hyn.out; omega) HR.bx.ty bNd; replace HB := bGr HB hg HB.size (by have := hyn.out; omega); replace HR := hk; clear hk hg))
     refine bodyPost_ret (v := .tuple #[ndV P5 d, .slice none 0 0]) (by rw [rBt Tryz.results22 _ rfl nodeT HR rfl]; rfl) rfl ?_
     rw [HQ.out]
     exact ⟨d, _, [], rfl, HM, CqG.nil _ _ none, rfl, HB⟩
    case pos =>
     have HQ := hI_ (show tickP p draw = askP P5 by rw [HTQ.out, if_neg (by rintro (h | h); exact ht h; rw [hh] at h; exact absurd h (by decide))])
     rw [hh]
     clear hh
     go_wp2_with (first
      | (refine lBk rfl _ rfl rfl nodeT HN rfl ?_))
     have HSZ := hI_ HB.size
     refine (pAsk_any rmOk P5 d hb5 K _ (Nat.le_trans hK HB.size) HM).mono ?_
     obtain ⟨P3, M3, h3⟩ : ∃ P3 M3, askP P5 = (P3, M3) := ⟨_, _, rfl⟩
     have HQ2 := hI_ (HQ.out.trans h3)
     rw [h3]
     clear h3 HQ
     rintro e w6 ⟨D3, v, O, rfl, hm3, hC, hO, hb⟩
     replace HB := HB.trans (hb.mono HB.size)
     replace HR := HR.later hb
     replace HM := hm3
     replace hC := hC.mono HSZ.out
     simp only at hO HM
     have HO := hI_ hO
     clear hb hm3 hO HN
     go_wp2_with (first
      | (refine sBk rfl _ _ rfl rfl rfl nodeT HR rfl rfl rfl ?_; intro w' hk hg; replace HM := HM.grown hg (by have := hyn.out; omega) HR.bx.ty bNd; replace hC := hC.box hg HR.bx.ty boxNm; replace HB := bGr HB hg HB.size (by have := hyn.out; omega); replace HR := hk; clear hk hg))
     refine bodyPost_ret (v := .tuple #[ndV P3 D3, v]) (by rw [rBt Tryz.results22 _ rfl nodeT HR rfl]; rfl) rfl ?_
     rw [HQ2.out]
     exact ⟨D3, v, O, rfl, HM, hC, HO.out, HB⟩
end Go.Proofs.YtdcpiaoadbbdoaaGreatDoor
