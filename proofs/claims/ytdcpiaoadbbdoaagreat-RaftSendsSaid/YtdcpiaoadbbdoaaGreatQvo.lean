/- A node is asked for its vote. -/
import Derived.Test.YtdcpiaoadbbdoaaGreatBulk
import Derived.Test.YtdcpiaoadbbdoaaGreatQrw
set_option maxRecDepth 100000
set_option maxHeartbeats 16000000
namespace Go.Proofs.YtdcpiaoadbbdoaaGreat
open Go.RowKit

theorem pVote_any (p : Pn) (d : Ad) (hBd : Bd p) (m : Mg) (K : Nat) (w : World) (hK : K ≤ w.heap.size) (hM : NdM K w p d) :
 Calls Tryz.prog 37 #[ndV p d, mgV m] w (NmP K w (voteP p m, [voteG p m])) := by
 obtain ⟨W, hW, B0, N0, Z0⟩ := nk_new w p d
 obtain ⟨Wm, ym, hWm, hym, Bm, HG, Zm⟩ := bk_new W (mgA m) 52
 obtain ⟨W1, y, hW1, hy, B1, HR, Z1⟩ := bk_new Wm znA 34
 have Bm' : Below W.heap.size W Wm := hym ▸ Bm
 have B1' : Below Wm.heap.size Wm W1 := hy ▸ B1
 have HB1 := B0.trans (Bm'.mono B0.size)
 have HN := (N0.later Bm').later B1'
 replace HG := HG.later B1'
 have HB := HB1.trans (B1'.mono HB1.size)
 have hyn := hI_ (show w.heap.size < y ∧ w.heap.size < ym ∧ ym < y by have := Z0.out; have := Zm.out; omega)
 clear B0 N0 B1 Bm Bm' B1' HB1
 unfold ndA at hW
 unfold mgA at hWm
 unfold znA at hW1
 have HM := hM.later HB
 obtain ⟨s1, gr, hs⟩ : ∃ s1 gr, ansS (seatP p) ⟨m.term, m.fr, m.lt, m.i, false⟩ = (s1, gr) := ⟨_, _, rfl⟩
 have HA := hI_ (show ∀ w1, Calls Tryz.prog 70 #[.agg #[.int .u64 p.term, .int .u64 p.vote, .int .u64 p.endT, .int .u64 p.endI, .bool (decide (p.role = 3) || decide (0 < p.heard))], .agg #[.int .u64 m.term, .int .u64 m.fr, .int .u64 m.lt, .int .u64 m.i, .bool false]] w1 (AnP w1 (s1, gr)) from fun w1 => by rw [← hs]; exact pAnswer_any _ _ _ _ _ _ _ _ _ _ w1)
 have HS0 := hI_ (show ∀ w1, Below w.heap.size w w1 → Calls Tryz.prog 71 #[ndV p d] w1 fun e w' => e = .returned (.agg #[.int .u64 p.term, .int .u64 p.vote, .int .u64 p.endT, .int .u64 p.endI, .bool (decide (p.role = 3) || decide (0 < p.heard))]) ∧ Below w1.heap.size w1 w' from fun w1 hb => pSeat_any p d hBd K w1 (hM.later hb))
 have HV1 := hI_ (show p.term < s1.t → voteP p m = { followP p s1.t with vote := s1.v, wait := if gr then p.span else p.wait } from fun h => by unfold voteP voteQ; rw [hs]; simp only [if_pos h] <;> (try rfl))
 have HV0 := hI_ (show ¬ p.term < s1.t → voteP p m = { p with vote := s1.v, wait := if gr then p.span else p.wait } from fun h => by unfold voteP voteQ; rw [hs]; simp only [if_neg h] <;> (try rfl))
 have HGR := hI_ (show (ansS (seatP p) ⟨m.term, m.fr, m.lt, m.i, false⟩).2 = gr by rw [hs])
 clear hM hs
 go_enter Tryz.func37, Tryz.ntmps37
 go_upto_region 1 with fail
 go_cut [6, 7] (fun sv gv wx => ∃ xa : Nat, sv = .pointer (some ⟨xa, 0, none⟩) ∧ gv = .bool gr ∧ w.heap.size < xa ∧ ym < xa ∧ y < xa ∧ Bk wx xa 115 [.int .u64 s1.t, .int .u64 s1.v, .int .u64 s1.lt, .int .u64 s1.li, .bool s1.h] ∧ Bk wx w.heap.size 34 (ndL p d) ∧ Bk wx ym 52 (mgC m) ∧ Bk wx y 34 znA.toList ∧ NdM K wx p d ∧ Below w.heap.size w wx)
 case first =>
  refine wp_region_held_drew (S := fun w' => Bk w' w.heap.size 34 (ndL p d) ∧ Bk w' ym 52 (mgC m) ∧ Bk w' y 34 znA.toList ∧ NdM K w' p d ∧ Below w.heap.size w w') (by kernel_rfl) (⟨HN.later ((Below.refl _ _).drew), HG.later ((Below.refl _ _).drew), HR.later ((Below.refl _ _).drew), HM.later ((Below.refl _ _).drew), HB.drew⟩) (fun HS => ?_)
  refine tkh (i := 0) (v := (.agg (ndL p d).toArray)) rfl ⟨by rfl, fun _ hSw => eLb _ rfl rfl nodeT hSw.1 rfl⟩ HS ?_
  try simp only [ly, Act.put]
  refine tkp (i := 2) rfl HS ?_
  refine tkh (i := 3) (v := (.int .u64 m.term)) rfl ⟨by rfl, fun _ hSw => exec_load_c _ rfl rfl ocU hSw.2.1 rfl⟩ HS ?_
  try simp only [ly, Act.put]
  refine tkp (i := 4) rfl HS ?_
  refine tkh (i := 5) (v := (.int .u64 m.fr)) rfl ⟨by rfl, fun _ hSw => exec_load_c _ rfl rfl ocU hSw.2.1 rfl⟩ HS ?_
  try simp only [ly, Act.put]
  refine tkp (i := 6) rfl HS ?_
  refine tkh (i := 7) (v := (.int .u64 m.lt)) rfl ⟨by rfl, fun _ hSw => exec_load_c _ rfl rfl ocU hSw.2.1 rfl⟩ HS ?_
  try simp only [ly, Act.put]
  refine tkp (i := 8) rfl HS ?_
  refine tkh (i := 9) (v := (.int .u64 m.i)) rfl ⟨by rfl, fun _ hSw => exec_load_c _ rfl rfl ocU hSw.2.1 rfl⟩ HS ?_
  try simp only [ly, Act.put]
  refine tkp (i := 10) rfl HS ?_
  try simp only [ly, Act.put]
  refine wpAnyH_ready (rs := [1, 15]) (by kernel_rfl) (by simp) ?_
  refine AllReadyH.cons rfl (fun KK hK => ?_) (AllReadyH.cons rfl (fun KK hK => ?_) AllReadyH.nil)
  · go_simp
    refine (HS0.out _ HS.2.2.2.2).mono ?_
    rintro e w2 ⟨rfl, hb⟩
    go_wp2_with fail
    (try replace HX := HX.later hb)
    refine hK.out _ _ ⟨HS.1.later hb, HS.2.1.later hb, HS.2.2.1.later hb, HS.2.2.2.1.later hb, HS.2.2.2.2.trans (hb.mono HS.2.2.2.2.size)⟩ (fun HS => ?_)
    clear hK
    try simp only [ly, Act.put]
    refine wpAnyH_ready (rs := [11, 15]) (by kernel_rfl) (by simp) ?_
    refine AllReadyH.cons rfl (fun KK hK => ?_) (AllReadyH.cons rfl (fun KK hK => ?_) AllReadyH.nil)
    · go_simp
      refine (HA.out _).mono ?_
      rintro e w2 ⟨rfl, hb⟩
      go_wp2_with fail
      (try replace HX := HX.later hb)
      refine hK.out _ _ ⟨HS.1.later hb, HS.2.1.later hb, HS.2.2.1.later hb, HS.2.2.2.1.later hb, HS.2.2.2.2.trans (hb.mono HS.2.2.2.2.size)⟩ (fun HS => ?_)
      clear hK
      try simp only [ly, Act.put]
      refine tkp (i := 12) rfl HS ?_
      try simp only [ly, Act.put]
      refine tkp (i := 13) rfl HS ?_
      try simp only [ly, Act.put]
      refine tkp (i := 14) rfl HS ?_
      try simp only [ly, Act.put]
      refine onh (r := 15) (by kernel_rfl) rfl (fun KK hK => ?_)
      obtain ⟨wa, xa, hwa, hxa, BA, HX, ZA⟩ := bk_at HS.2.2.2.2 #[.int .u64 0, .int .u64 0, .int .u64 0, .int .u64 0, .bool false] 115
      have hxy := hI_ (show w.heap.size < xa ∧ ym < xa ∧ y < xa from ⟨hxa ▸ HS.1.lt, hxa ▸ HS.2.1.lt, hxa ▸ HS.2.2.1.lt⟩)
      go_simp
      clear hwa hxa
      refine hK.out _ _ ⟨HS.1.later BA, HS.2.1.later BA, HS.2.2.1.later BA, HS.2.2.2.1.later BA, HS.2.2.2.2.trans (BA.mono HS.2.2.2.2.size)⟩ (fun HS => ?_)
      clear hK
      try simp only [ly, Act.put]
      refine onh (r := 16) (by kernel_rfl) rfl (fun KK hK => ?_)
      rw [if_pos (by rfl)]
      refine wSb _ _ rfl rfl (M := [.int .u64 s1.t, .int .u64 s1.v, .int .u64 s1.lt, .int .u64 s1.li, .bool s1.h]) rfl seatT HX rfl rfl rfl ?_
      intro w' hk hg
      have HS9 := And.intro (HS.1.grown hg (by have := hxy.out; omega)) (And.intro (HS.2.1.grown hg (by have := hxy.out; omega)) (And.intro (HS.2.2.1.grown hg (by have := hxy.out; omega)) (And.intro (HS.2.2.2.1.grown hg (by have := hxy.out; omega) HX.bx.ty boxSeat) (bGr HS.2.2.2.2 hg HS.2.2.2.2.size (by have := hxy.out; omega)))))
      replace HX := hk
      clear hk hg
      refine hK.out _ _ HS9 (fun HS => ?_)
      clear HS9
      clear hK
      try simp only [ly, Act.put]
      refine tkp (i := 17) rfl HS ?_
      try simp only [ly, Act.put]
      refine wpAnyH_done (by kernel_rfl) ?_ _
      go_wp2_with fail
      go_meet
      exact ⟨xa, rfl, rfl, hxy.out.1, hxy.out.2.1, hxy.out.2.2, HX, HS.1, HS.2.1, HS.2.2.1, HS.2.2.2.1, HS.2.2.2.2⟩
    · obtain ⟨wa, xa, hwa, hxa, BA, HX, ZA⟩ := bk_at HS.2.2.2.2 #[.int .u64 0, .int .u64 0, .int .u64 0, .int .u64 0, .bool false] 115
      have hxy := hI_ (show w.heap.size < xa ∧ ym < xa ∧ y < xa from ⟨hxa ▸ HS.1.lt, hxa ▸ HS.2.1.lt, hxa ▸ HS.2.2.1.lt⟩)
      go_simp
      clear hwa hxa
      refine hK.out _ _ ⟨HS.1.later BA, HS.2.1.later BA, HS.2.2.1.later BA, HS.2.2.2.1.later BA, HS.2.2.2.2.trans (BA.mono HS.2.2.2.2.size)⟩ (fun HS => ?_)
      clear hK
      try simp only [ly, Act.put]
      refine onh (r := 11) (by kernel_rfl) rfl (fun KK hK => ?_)
      go_simp
      refine (HA.out _).mono ?_
      rintro e w2 ⟨rfl, hb⟩
      go_wp2_with fail
      (try replace HX := HX.later hb)
      refine hK.out _ _ ⟨HS.1.later hb, HS.2.1.later hb, HS.2.2.1.later hb, HS.2.2.2.1.later hb, HS.2.2.2.2.trans (hb.mono HS.2.2.2.2.size)⟩ (fun HS => ?_)
      clear hK
      try simp only [ly, Act.put]
      refine tkp (i := 12) rfl HS ?_
      try simp only [ly, Act.put]
      refine tkp (i := 13) rfl HS ?_
      try simp only [ly, Act.put]
      refine tkp (i := 14) rfl HS ?_
      try simp only [ly, Act.put]
      refine onh (r := 16) (by kernel_rfl) rfl (fun KK hK => ?_)
      rw [if_pos (by rfl)]
      refine wSb _ _ rfl rfl (M := [.int .u64 s1.t, .int .u64 s1.v, .int .u64 s1.lt, .int .u64 s1.li, .bool s1.h]) rfl seatT HX rfl rfl rfl ?_
      intro w' hk hg
      have HS9 := And.intro (HS.1.grown hg (by have := hxy.out; omega)) (And.intro (HS.2.1.grown hg (by have := hxy.out; omega)) (And.intro (HS.2.2.1.grown hg (by have := hxy.out; omega)) (And.intro (HS.2.2.2.1.grown hg (by have := hxy.out; omega) HX.bx.ty boxSeat) (bGr HS.2.2.2.2 hg HS.2.2.2.2.size (by have := hxy.out; omega)))))
      replace HX := hk
      clear hk hg
      refine hK.out _ _ HS9 (fun HS => ?_)
      clear HS9
      clear hK
      try simp only [ly, Act.put]
      refine tkp (i := 17) rfl HS ?_
      try simp only [ly, Act.put]
      refine wpAnyH_done (by kernel_rfl) ?_ _
      go_wp2_with fail
      go_meet
      exact ⟨xa, rfl, rfl, hxy.out.1, hxy.out.2.1, hxy.out.2.2, HX, HS.1, HS.2.1, HS.2.2.1, HS.2.2.2.1, HS.2.2.2.2⟩
  · obtain ⟨wa, xa, hwa, hxa, BA, HX, ZA⟩ := bk_at HS.2.2.2.2 #[.int .u64 0, .int .u64 0, .int .u64 0, .int .u64 0, .bool false] 115
    have hxy := hI_ (show w.heap.size < xa ∧ ym < xa ∧ y < xa from ⟨hxa ▸ HS.1.lt, hxa ▸ HS.2.1.lt, hxa ▸ HS.2.2.1.lt⟩)
    go_simp
    clear hwa hxa
    refine hK.out _ _ ⟨HS.1.later BA, HS.2.1.later BA, HS.2.2.1.later BA, HS.2.2.2.1.later BA, HS.2.2.2.2.trans (BA.mono HS.2.2.2.2.size)⟩ (fun HS => ?_)
    clear hK
    try simp only [ly, Act.put]
    refine onh (r := 1) (by kernel_rfl) rfl (fun KK hK => ?_)
    go_simp
    refine (HS0.out _ HS.2.2.2.2).mono ?_
    rintro e w2 ⟨rfl, hb⟩
    go_wp2_with fail
    (try replace HX := HX.later hb)
    refine hK.out _ _ ⟨HS.1.later hb, HS.2.1.later hb, HS.2.2.1.later hb, HS.2.2.2.1.later hb, HS.2.2.2.2.trans (hb.mono HS.2.2.2.2.size)⟩ (fun HS => ?_)
    clear hK
    try simp only [ly, Act.put]
    refine onh (r := 11) (by kernel_rfl) rfl (fun KK hK => ?_)
    go_simp
    refine (HA.out _).mono ?_
    rintro e w2 ⟨rfl, hb⟩
    go_wp2_with fail
    (try replace HX := HX.later hb)
    refine hK.out _ _ ⟨HS.1.later hb, HS.2.1.later hb, HS.2.2.1.later hb, HS.2.2.2.1.later hb, HS.2.2.2.2.trans (hb.mono HS.2.2.2.2.size)⟩ (fun HS => ?_)
    clear hK
    try simp only [ly, Act.put]
    refine tkp (i := 12) rfl HS ?_
    try simp only [ly, Act.put]
    refine tkp (i := 13) rfl HS ?_
    try simp only [ly, Act.put]
    refine tkp (i := 14) rfl HS ?_
    try simp only [ly, Act.put]
    refine onh (r := 16) (by kernel_rfl) rfl (fun KK hK => ?_)
    rw [if_pos (by rfl)]
    refine wSb _ _ rfl rfl (M := [.int .u64 s1.t, .int .u64 s1.v, .int .u64 s1.lt, .int .u64 s1.li, .bool s1.h]) rfl seatT HX rfl rfl rfl ?_
    intro w' hk hg
    have HS9 := And.intro (HS.1.grown hg (by have := hxy.out; omega)) (And.intro (HS.2.1.grown hg (by have := hxy.out; omega)) (And.intro (HS.2.2.1.grown hg (by have := hxy.out; omega)) (And.intro (HS.2.2.2.1.grown hg (by have := hxy.out; omega) HX.bx.ty boxSeat) (bGr HS.2.2.2.2 hg HS.2.2.2.2.size (by have := hxy.out; omega)))))
    replace HX := hk
    clear hk hg
    refine hK.out _ _ HS9 (fun HS => ?_)
    clear HS9
    clear hK
    try simp only [ly, Act.put]
    refine tkp (i := 17) rfl HS ?_
    try simp only [ly, Act.put]
    refine wpAnyH_done (by kernel_rfl) ?_ _
    go_wp2_with fail
    go_meet
    exact ⟨xa, rfl, rfl, hxy.out.1, hxy.out.2.1, hxy.out.2.2, HX, HS.1, HS.2.1, HS.2.2.1, HS.2.2.2.1, HS.2.2.2.2⟩
 clear HN HG HR HM HB
 obtain ⟨xa, rfl, rfl, hx1, hx2, hx3, HX, HN, HG, HR, HM, HB⟩ := hcut
 have hxy := hI_ (show w.heap.size < xa ∧ ym < xa ∧ y < xa from ⟨hx1, hx2, hx3⟩)
 by_cases hl : p.term < s1.t
 · have gl : (p.term : Int) < (s1.t : Int) := by omega
   cases gr
   case false =>
    go_wp2_with (first
     | (refine lCc rfl _ rfl rfl (ocA rfl) (by assumption) rfl ?_)
     | (refine lBk rfl _ rfl rfl nodeT HN rfl ?_))
    refine (pFollow_any p d s1.t K _ HM).mono ?_
    obtain ⟨P1, h1⟩ : ∃ P1, followP p s1.t = P1 := ⟨_, rfl⟩
    rw [h1]
    have HP1 := hI_ h1
    clear h1
    rintro e w5 ⟨D1, rfl, hm2, hb⟩
    replace HB := HB.trans (hb.mono HB.size)
    replace HR := HR.later hb
    replace HG := HG.later hb
    replace HX := HX.later hb
    replace HN := HN.later hb
    replace HM := hm2
    clear hb hm2
    obtain ⟨PV, hPV⟩ : ∃ PV : Pn, PV = { P1 with vote := s1.v } := ⟨_, rfl⟩
    have HPV := hI_ hPV
    have HVP := hI_ (show voteP p m = PV by rw [hPV, ← HP1.out]; exact HV1.out hl)
    have HVG := hI_ (show voteG p m = { msgG PV 4 m.fr with ok := false } by unfold voteG; rw [HVP.out, HGR.out])
    clear hPV
    go_wp2_with (first
     | (refine sBk rfl _ _ rfl rfl rfl nodeT HN rfl rfl rfl ?_; intro w' hk hg; replace HR := HR.grown hg (by have := hyn.out; omega); replace HG := HG.grown hg (by have := hyn.out; omega); replace HX := HX.grown hg (by have := hxy.out; omega); replace HM := HM.grown hg hK HN.bx.ty bNd; replace HB := bGr HB hg HB.size (Nat.le_refl _); replace HN := hk; clear hk hg)
     | (refine sCc (v := .int .u64 s1.v) rfl _ _ rfl rfl rfl ocU HN rfl rfl rfl ?_; intro w' hk hg; replace HR := HR.grown hg (by have := hyn.out; omega); replace HG := HG.grown hg (by have := hyn.out; omega); replace HX := HX.grown hg (by have := hxy.out; omega); replace HM := HM.grown hg hK HN.bx.ty bNd; replace HB := bGr HB hg HB.size (Nat.le_refl _); replace HN := hk; clear hk hg; (replace HN : Bk w' w.heap.size 34 (ndL PV D1) := by rw [HPV.out]; exact HN); (replace HM : NdM K w' PV D1 := by rw [HPV.out]; exact HM.same rfl rfl rfl rfl rfl))
     | (refine lCc rfl _ rfl rfl (ocA rfl) (by assumption) rfl ?_)
     | (refine lBk rfl _ rfl rfl nodeT HN rfl ?_))
    refine (pMessage_any PV D1 4 m.fr _).mono ?_
    rintro e w1 ⟨rfl, hb⟩
    replace HB := HB.trans (hb.mono HB.size)
    replace HR := HR.later hb
    replace HN := HN.later hb
    replace HM := HM.later hb
    clear hb HG HX
    obtain ⟨x0, hx0⟩ : ∃ x, msgG PV 4 m.fr = x := ⟨_, rfl⟩
    have HX0 := hI_ hx0
    rw [hx0]
    clear hx0
    obtain ⟨w2, yx, hw2, hyx', B2, HX, Z2⟩ := bk_new w1 (mgA x0) 52
    have hyx := hI_ (show w.heap.size < yx ∧ y < yx by have := HN.lt; have := HR.lt; omega)
    have B2' : Below w1.heap.size w1 w2 := hyx' ▸ B2
    replace HB := HB.trans (B2'.mono HB.size)
    replace HR := HR.later B2'
    replace HN := HN.later B2'
    replace HM := HM.later B2'
    unfold mgA at hw2
    clear B2 B2'
    go_wp2_with (first
     | (refine sCc (v := .bool false) rfl _ _ rfl rfl rfl ocB HX rfl rfl rfl ?_; intro w' hk hg; replace HN := HN.grown hg (by have := hyx.out; omega); replace HR := HR.grown hg (by have := hyx.out; omega); replace HM := HM.grown hg (by have := hyx.out; omega) HX.bx.ty boxMessage; replace HB := bGr HB hg HB.size (by have := hyx.out; omega); replace HX := hk; clear hk hg))
    replace HR := HR.later ((Below.refl _ _).drew)
    refine wp_region_held_drew (S := fun w' => Bk w' w.heap.size 34 (ndL PV D1) ∧ Bk w' yx 52 (mgC { x0 with ok := false }) ∧ NdM K w' PV D1 ∧ Below w.heap.size w w') (by kernel_rfl) (⟨HN.later ((Below.refl _ _).drew), HX.later ((Below.refl _ _).drew), HM.later ((Below.refl _ _).drew), HB.drew⟩) (fun HS => ?_)
    refine tkh (i := 0) (v := (.agg (ndL PV D1).toArray)) rfl ⟨by rfl, fun _ hSw => eLb _ rfl rfl nodeT hSw.1 rfl⟩ HS ?_
    refine tkh (i := 1) (v := (.agg (List.toArray (mgC { x0 with ok := false })))) rfl ⟨by rfl, fun _ hSw => eLb _ rfl rfl messT hSw.2.1 rfl⟩ HS ?_
    try simp only [ly, Act.put]
    refine wpAnyH_ready (rs := [2, 3]) (by kernel_rfl) (by simp) ?_
    refine AllReadyH.cons rfl (fun KK hK => ?_) (AllReadyH.cons rfl (fun KK hK => ?_) AllReadyH.nil)
    · obtain ⟨z, hz, BR, HC⟩ := row_at HS.2.2.2 HS.2.2.2.size { x0 with ok := false } (by show x0.es = []; rw [← HX0.out]; rfl)
      go_simp
      replace HR := HR.later BR
      clear hz
      refine hK.out _ _ ⟨HS.1.later BR, HS.2.1.later BR, HS.2.2.1.later BR, HS.2.2.2.trans (BR.mono HS.2.2.2.size)⟩ (fun HS => ?_)
      clear hK
      try simp only [ly, Act.put]
      refine onh (r := 3) (by kernel_rfl) rfl (fun KK hK => ?_)
      rw [if_pos (by rfl)]
      refine wSb _ _ rfl rfl (M := ndL PV D1) rfl nodeT HR rfl rfl rfl ?_
      intro w' hk hg
      (try replace HC := HC.box hg HR.bx.ty boxNm)
      have HS9 := And.intro (HS.1.grown hg (by have := hyn.out; omega)) (And.intro (HS.2.1.grown hg (by have := hyx.out; omega)) (And.intro (HS.2.2.1.grown hg (by have := hyn.out; omega) HR.bx.ty bNd) (bGr HS.2.2.2 hg HS.2.2.2.size (by have := hyn.out; omega))))
      replace HR := hk
      clear hk hg
      refine hK.out _ _ HS9 (fun HS => ?_)
      clear HS9
      clear hK
      try simp only [ly, Act.put]
      refine tkp (i := 4) rfl HS ?_
      try simp only [ly, Act.put]
      refine wpAnyH_done (by kernel_rfl) ?_ _
      go_wp2_with fail
      refine bodyPost_ret (v := .tuple #[ndV PV D1, .slice (some ⟨z, 0, none⟩) 1 1]) (by rw [rBt Tryz.results37 _ rfl nodeT HR rfl]; rfl) rfl ?_
      rw [HVP.out, HVG.out]
      exact ⟨D1, _, [{ x0 with ok := false }], rfl, HS.2.2.1, HC, by rw [← HX0.out]; rfl, HS.2.2.2⟩
    · rw [if_pos (by rfl)]
      refine wSb _ _ rfl rfl (M := ndL PV D1) rfl nodeT HR rfl rfl rfl ?_
      intro w' hk hg
      (try replace HC := HC.box hg HR.bx.ty boxNm)
      have HS9 := And.intro (HS.1.grown hg (by have := hyn.out; omega)) (And.intro (HS.2.1.grown hg (by have := hyx.out; omega)) (And.intro (HS.2.2.1.grown hg (by have := hyn.out; omega) HR.bx.ty bNd) (bGr HS.2.2.2 hg HS.2.2.2.size (by have := hyn.out; omega))))
      replace HR := hk
      clear hk hg
      refine hK.out _ _ HS9 (fun HS => ?_)
      clear HS9
      clear hK
      try simp only [ly, Act.put]
      refine onh (r := 2) (by kernel_rfl) rfl (fun KK hK => ?_)
      obtain ⟨z, hz, BR, HC⟩ := row_at HS.2.2.2 HS.2.2.2.size { x0 with ok := false } (by show x0.es = []; rw [← HX0.out]; rfl)
      go_simp
      replace HR := HR.later BR
      clear hz
      refine hK.out _ _ ⟨HS.1.later BR, HS.2.1.later BR, HS.2.2.1.later BR, HS.2.2.2.trans (BR.mono HS.2.2.2.size)⟩ (fun HS => ?_)
      clear hK
      try simp only [ly, Act.put]
      refine tkp (i := 4) rfl HS ?_
      try simp only [ly, Act.put]
      refine wpAnyH_done (by kernel_rfl) ?_ _
      go_wp2_with fail
      refine bodyPost_ret (v := .tuple #[ndV PV D1, .slice (some ⟨z, 0, none⟩) 1 1]) (by rw [rBt Tryz.results37 _ rfl nodeT HR rfl]; rfl) rfl ?_
      rw [HVP.out, HVG.out]
      exact ⟨D1, _, [{ x0 with ok := false }], rfl, HS.2.2.1, HC, by rw [← HX0.out]; rfl, HS.2.2.2⟩
   case true =>
    go_wp2_with (first
     | (refine lCc rfl _ rfl rfl (ocA rfl) (by assumption) rfl ?_)
     | (refine lBk rfl _ rfl rfl nodeT HN rfl ?_))
    refine (pFollow_any p d s1.t K _ HM).mono ?_
    obtain ⟨P1, h1⟩ : ∃ P1, followP p s1.t = P1 := ⟨_, rfl⟩
    rw [h1]
    have HP1 := hI_ h1
    clear h1
    rintro e w5 ⟨D1, rfl, hm2, hb⟩
    replace HB := HB.trans (hb.mono HB.size)
    replace HR := HR.later hb
    replace HG := HG.later hb
    replace HX := HX.later hb
    replace HN := HN.later hb
    replace HM := hm2
    clear hb hm2
    obtain ⟨PV, hPV⟩ : ∃ PV : Pn, PV = { P1 with vote := s1.v, wait := P1.span } := ⟨_, rfl⟩
    have HPV := hI_ hPV
    have HVP := hI_ (show voteP p m = PV by rw [hPV, ← HP1.out]; exact HV1.out hl)
    have HVG := hI_ (show voteG p m = { msgG PV 4 m.fr with ok := true } by unfold voteG; rw [HVP.out, HGR.out])
    clear hPV
    go_wp2_with (first
     | (refine sBk rfl _ _ rfl rfl rfl nodeT HN rfl rfl rfl ?_; intro w' hk hg; replace HR := HR.grown hg (by have := hyn.out; omega); replace HG := HG.grown hg (by have := hyn.out; omega); replace HX := HX.grown hg (by have := hxy.out; omega); replace HM := HM.grown hg hK HN.bx.ty bNd; replace HB := bGr HB hg HB.size (Nat.le_refl _); replace HN := hk; clear hk hg)
     | (refine sCc (v := .int .u64 s1.v) rfl _ _ rfl rfl rfl ocU HN rfl rfl rfl ?_; intro w' hk hg; replace HR := HR.grown hg (by have := hyn.out; omega); replace HG := HG.grown hg (by have := hyn.out; omega); replace HX := HX.grown hg (by have := hxy.out; omega); replace HM := HM.grown hg hK HN.bx.ty bNd; replace HB := bGr HB hg HB.size (Nat.le_refl _); replace HN := hk; clear hk hg)
     | (refine sCc (v := .int .i64 P1.span) rfl _ _ rfl rfl rfl ocI HN rfl rfl rfl ?_; intro w' hk hg; replace HR := HR.grown hg (by have := hyn.out; omega); replace HG := HG.grown hg (by have := hyn.out; omega); replace HX := HX.grown hg (by have := hxy.out; omega); replace HM := HM.grown hg hK HN.bx.ty bNd; replace HB := bGr HB hg HB.size (Nat.le_refl _); replace HN := hk; clear hk hg; (replace HN : Bk w' w.heap.size 34 (ndL PV D1) := by rw [HPV.out]; exact HN); (replace HM : NdM K w' PV D1 := by rw [HPV.out]; exact HM.same rfl rfl rfl rfl rfl))
     | (refine lCc rfl _ rfl rfl (ocA rfl) (by assumption) rfl ?_)
     | (refine lBk rfl _ rfl rfl nodeT HN rfl ?_))
    refine (pMessage_any PV D1 4 m.fr _).mono ?_
    rintro e w1 ⟨rfl, hb⟩
    replace HB := HB.trans (hb.mono HB.size)
    replace HR := HR.later hb
    replace HN := HN.later hb
    replace HM := HM.later hb
    clear hb HG HX
    obtain ⟨x0, hx0⟩ : ∃ x, msgG PV 4 m.fr = x := ⟨_, rfl⟩
    have HX0 := hI_ hx0
    rw [hx0]
    clear hx0
    obtain ⟨w2, yx, hw2, hyx', B2, HX, Z2⟩ := bk_new w1 (mgA x0) 52
    have hyx := hI_ (show w.heap.size < yx ∧ y < yx by have := HN.lt; have := HR.lt; omega)
    have B2' : Below w1.heap.size w1 w2 := hyx' ▸ B2
    replace HB := HB.trans (B2'.mono HB.size)
    replace HR := HR.later B2'
    replace HN := HN.later B2'
    replace HM := HM.later B2'
    unfold mgA at hw2
    clear B2 B2'
    go_wp2_with (first
     | (refine sCc (v := .bool true) rfl _ _ rfl rfl rfl ocB HX rfl rfl rfl ?_; intro w' hk hg; replace HN := HN.grown hg (by have := hyx.out; omega); replace HR := HR.grown hg (by have := hyx.out; omega); replace HM := HM.grown hg (by have := hyx.out; omega) HX.bx.ty boxMessage; replace HB := bGr HB hg HB.size (by have := hyx.out; omega); replace HX := hk; clear hk hg))
    replace HR := HR.later ((Below.refl _ _).drew)
    refine wp_region_held_drew (S := fun w' => Bk w' w.heap.size 34 (ndL PV D1) ∧ Bk w' yx 52 (mgC { x0 with ok := true }) ∧ NdM K w' PV D1 ∧ Below w.heap.size w w') (by kernel_rfl) (⟨HN.later ((Below.refl _ _).drew), HX.later ((Below.refl _ _).drew), HM.later ((Below.refl _ _).drew), HB.drew⟩) (fun HS => ?_)
    refine tkh (i := 0) (v := (.agg (ndL PV D1).toArray)) rfl ⟨by rfl, fun _ hSw => eLb _ rfl rfl nodeT hSw.1 rfl⟩ HS ?_
    refine tkh (i := 1) (v := (.agg (List.toArray (mgC { x0 with ok := true })))) rfl ⟨by rfl, fun _ hSw => eLb _ rfl rfl messT hSw.2.1 rfl⟩ HS ?_
    try simp only [ly, Act.put]
    refine wpAnyH_ready (rs := [2, 3]) (by kernel_rfl) (by simp) ?_
    refine AllReadyH.cons rfl (fun KK hK => ?_) (AllReadyH.cons rfl (fun KK hK => ?_) AllReadyH.nil)
    · obtain ⟨z, hz, BR, HC⟩ := row_at HS.2.2.2 HS.2.2.2.size { x0 with ok := true } (by show x0.es = []; rw [← HX0.out]; rfl)
      go_simp
      replace HR := HR.later BR
      clear hz
      refine hK.out _ _ ⟨HS.1.later BR, HS.2.1.later BR, HS.2.2.1.later BR, HS.2.2.2.trans (BR.mono HS.2.2.2.size)⟩ (fun HS => ?_)
      clear hK
      try simp only [ly, Act.put]
      refine onh (r := 3) (by kernel_rfl) rfl (fun KK hK => ?_)
      rw [if_pos (by rfl)]
      refine wSb _ _ rfl rfl (M := ndL PV D1) rfl nodeT HR rfl rfl rfl ?_
      intro w' hk hg
      (try replace HC := HC.box hg HR.bx.ty boxNm)
      have HS9 := And.intro (HS.1.grown hg (by have := hyn.out; omega)) (And.intro (HS.2.1.grown hg (by have := hyx.out; omega)) (And.intro (HS.2.2.1.grown hg (by have := hyn.out; omega) HR.bx.ty bNd) (bGr HS.2.2.2 hg HS.2.2.2.size (by have := hyn.out; omega))))
      replace HR := hk
      clear hk hg
      refine hK.out _ _ HS9 (fun HS => ?_)
      clear HS9
      clear hK
      try simp only [ly, Act.put]
      refine tkp (i := 4) rfl HS ?_
      try simp only [ly, Act.put]
      refine wpAnyH_done (by kernel_rfl) ?_ _
      go_wp2_with fail
      refine bodyPost_ret (v := .tuple #[ndV PV D1, .slice (some ⟨z, 0, none⟩) 1 1]) (by rw [rBt Tryz.results37 _ rfl nodeT HR rfl]; rfl) rfl ?_
      rw [HVP.out, HVG.out]
      exact ⟨D1, _, [{ x0 with ok := true }], rfl, HS.2.2.1, HC, by rw [← HX0.out]; rfl, HS.2.2.2⟩
    · rw [if_pos (by rfl)]
      refine wSb _ _ rfl rfl (M := ndL PV D1) rfl nodeT HR rfl rfl rfl ?_
      intro w' hk hg
      (try replace HC := HC.box hg HR.bx.ty boxNm)
      have HS9 := And.intro (HS.1.grown hg (by have := hyn.out; omega)) (And.intro (HS.2.1.grown hg (by have := hyx.out; omega)) (And.intro (HS.2.2.1.grown hg (by have := hyn.out; omega) HR.bx.ty bNd) (bGr HS.2.2.2 hg HS.2.2.2.size (by have := hyn.out; omega))))
      replace HR := hk
      clear hk hg
      refine hK.out _ _ HS9 (fun HS => ?_)
      clear HS9
      clear hK
      try simp only [ly, Act.put]
      refine onh (r := 2) (by kernel_rfl) rfl (fun KK hK => ?_)
      obtain ⟨z, hz, BR, HC⟩ := row_at HS.2.2.2 HS.2.2.2.size { x0 with ok := true } (by show x0.es = []; rw [← HX0.out]; rfl)
      go_simp
      replace HR := HR.later BR
      clear hz
      refine hK.out _ _ ⟨HS.1.later BR, HS.2.1.later BR, HS.2.2.1.later BR, HS.2.2.2.trans (BR.mono HS.2.2.2.size)⟩ (fun HS => ?_)
      clear hK
      try simp only [ly, Act.put]
      refine tkp (i := 4) rfl HS ?_
      try simp only [ly, Act.put]
      refine wpAnyH_done (by kernel_rfl) ?_ _
      go_wp2_with fail
      refine bodyPost_ret (v := .tuple #[ndV PV D1, .slice (some ⟨z, 0, none⟩) 1 1]) (by rw [rBt Tryz.results37 _ rfl nodeT HR rfl]; rfl) rfl ?_
      rw [HVP.out, HVG.out]
      exact ⟨D1, _, [{ x0 with ok := true }], rfl, HS.2.2.1, HC, by rw [← HX0.out]; rfl, HS.2.2.2⟩
 · have gl : ¬ (p.term : Int) < (s1.t : Int) := by omega
   cases gr
   case false =>
    obtain ⟨PV, hPV⟩ : ∃ PV : Pn, PV = { p with vote := s1.v } := ⟨_, rfl⟩
    have HPV := hI_ hPV
    have HVP := hI_ (show voteP p m = PV by rw [hPV]; exact HV0.out hl)
    have HVG := hI_ (show voteG p m = { msgG PV 4 m.fr with ok := false } by unfold voteG; rw [HVP.out, HGR.out])
    clear hPV
    go_wp2_with (first
     | (refine sCc (v := .int .u64 s1.v) rfl _ _ rfl rfl rfl ocU HN rfl rfl rfl ?_; intro w' hk hg; replace HR := HR.grown hg (by have := hyn.out; omega); replace HG := HG.grown hg (by have := hyn.out; omega); replace HX := HX.grown hg (by have := hxy.out; omega); replace HM := HM.grown hg hK HN.bx.ty bNd; replace HB := bGr HB hg HB.size (Nat.le_refl _); replace HN := hk; clear hk hg; (replace HN : Bk w' w.heap.size 34 (ndL PV d) := by rw [HPV.out]; exact HN); (replace HM : NdM K w' PV d := by rw [HPV.out]; exact HM.same rfl rfl rfl rfl rfl))
     | (refine lCc rfl _ rfl rfl (ocA rfl) (by assumption) rfl ?_)
     | (refine lBk rfl _ rfl rfl nodeT HN rfl ?_))
    refine (pMessage_any PV d 4 m.fr _).mono ?_
    rintro e w1 ⟨rfl, hb⟩
    replace HB := HB.trans (hb.mono HB.size)
    replace HR := HR.later hb
    replace HN := HN.later hb
    replace HM := HM.later hb
    clear hb HG HX
    obtain ⟨x0, hx0⟩ : ∃ x, msgG PV 4 m.fr = x := ⟨_, rfl⟩
    have HX0 := hI_ hx0
    rw [hx0]
    clear hx0
    obtain ⟨w2, yx, hw2, hyx', B2, HX, Z2⟩ := bk_new w1 (mgA x0) 52
    have hyx := hI_ (show w.heap.size < yx ∧ y < yx by have := HN.lt; have := HR.lt; omega)
    have B2' : Below w1.heap.size w1 w2 := hyx' ▸ B2
    replace HB := HB.trans (B2'.mono HB.size)
    replace HR := HR.later B2'
    replace HN := HN.later B2'
    replace HM := HM.later B2'
    unfold mgA at hw2
    clear B2 B2'
    go_wp2_with (first
     | (refine sCc (v := .bool false) rfl _ _ rfl rfl rfl ocB HX rfl rfl rfl ?_; intro w' hk hg; replace HN := HN.grown hg (by have := hyx.out; omega); replace HR := HR.grown hg (by have := hyx.out; omega); replace HM := HM.grown hg (by have := hyx.out; omega) HX.bx.ty boxMessage; replace HB := bGr HB hg HB.size (by have := hyx.out; omega); replace HX := hk; clear hk hg))
    replace HR := HR.later ((Below.refl _ _).drew)
    refine wp_region_held_drew (S := fun w' => Bk w' w.heap.size 34 (ndL PV d) ∧ Bk w' yx 52 (mgC { x0 with ok := false }) ∧ NdM K w' PV d ∧ Below w.heap.size w w') (by kernel_rfl) (⟨HN.later ((Below.refl _ _).drew), HX.later ((Below.refl _ _).drew), HM.later ((Below.refl _ _).drew), HB.drew⟩) (fun HS => ?_)
    refine tkh (i := 0) (v := (.agg (ndL PV d).toArray)) rfl ⟨by rfl, fun _ hSw => eLb _ rfl rfl nodeT hSw.1 rfl⟩ HS ?_
    refine tkh (i := 1) (v := (.agg (List.toArray (mgC { x0 with ok := false })))) rfl ⟨by rfl, fun _ hSw => eLb _ rfl rfl messT hSw.2.1 rfl⟩ HS ?_
    try simp only [ly, Act.put]
    refine wpAnyH_ready (rs := [2, 3]) (by kernel_rfl) (by simp) ?_
    refine AllReadyH.cons rfl (fun KK hK => ?_) (AllReadyH.cons rfl (fun KK hK => ?_) AllReadyH.nil)
    · obtain ⟨z, hz, BR, HC⟩ := row_at HS.2.2.2 HS.2.2.2.size { x0 with ok := false } (by show x0.es = []; rw [← HX0.out]; rfl)
      go_simp
      replace HR := HR.later BR
      clear hz
      refine hK.out _ _ ⟨HS.1.later BR, HS.2.1.later BR, HS.2.2.1.later BR, HS.2.2.2.trans (BR.mono HS.2.2.2.size)⟩ (fun HS => ?_)
      clear hK
      try simp only [ly, Act.put]
      refine onh (r := 3) (by kernel_rfl) rfl (fun KK hK => ?_)
      rw [if_pos (by rfl)]
      refine wSb _ _ rfl rfl (M := ndL PV d) rfl nodeT HR rfl rfl rfl ?_
      intro w' hk hg
      (try replace HC := HC.box hg HR.bx.ty boxNm)
      have HS9 := And.intro (HS.1.grown hg (by have := hyn.out; omega)) (And.intro (HS.2.1.grown hg (by have := hyx.out; omega)) (And.intro (HS.2.2.1.grown hg (by have := hyn.out; omega) HR.bx.ty bNd) (bGr HS.2.2.2 hg HS.2.2.2.size (by have := hyn.out; omega))))
      replace HR := hk
      clear hk hg
      refine hK.out _ _ HS9 (fun HS => ?_)
      clear HS9
      clear hK
      try simp only [ly, Act.put]
      refine tkp (i := 4) rfl HS ?_
      try simp only [ly, Act.put]
      refine wpAnyH_done (by kernel_rfl) ?_ _
      go_wp2_with fail
      refine bodyPost_ret (v := .tuple #[ndV PV d, .slice (some ⟨z, 0, none⟩) 1 1]) (by rw [rBt Tryz.results37 _ rfl nodeT HR rfl]; rfl) rfl ?_
      rw [HVP.out, HVG.out]
      exact ⟨d, _, [{ x0 with ok := false }], rfl, HS.2.2.1, HC, by rw [← HX0.out]; rfl, HS.2.2.2⟩
    · rw [if_pos (by rfl)]
      refine wSb _ _ rfl rfl (M := ndL PV d) rfl nodeT HR rfl rfl rfl ?_
      intro w' hk hg
      (try replace HC := HC.box hg HR.bx.ty boxNm)
      have HS9 := And.intro (HS.1.grown hg (by have := hyn.out; omega)) (And.intro (HS.2.1.grown hg (by have := hyx.out; omega)) (And.intro (HS.2.2.1.grown hg (by have := hyn.out; omega) HR.bx.ty bNd) (bGr HS.2.2.2 hg HS.2.2.2.size (by have := hyn.out; omega))))
      replace HR := hk
      clear hk hg
      refine hK.out _ _ HS9 (fun HS => ?_)
      clear HS9
      clear hK
      try simp only [ly, Act.put]
      refine onh (r := 2) (by kernel_rfl) rfl (fun KK hK => ?_)
      obtain ⟨z, hz, BR, HC⟩ := row_at HS.2.2.2 HS.2.2.2.size { x0 with ok := false } (by show x0.es = []; rw [← HX0.out]; rfl)
      go_simp
      replace HR := HR.later BR
      clear hz
      refine hK.out _ _ ⟨HS.1.later BR, HS.2.1.later BR, HS.2.2.1.later BR, HS.2.2.2.trans (BR.mono HS.2.2.2.size)⟩ (fun HS => ?_)
      clear hK
      try simp only [ly, Act.put]
      refine tkp (i := 4) rfl HS ?_
      try simp only [ly, Act.put]
      refine wpAnyH_done (by kernel_rfl) ?_ _
      go_wp2_with fail
      refine bodyPost_ret (v := .tuple #[ndV PV d, .slice (some ⟨z, 0, none⟩) 1 1]) (by rw [rBt Tryz.results37 _ rfl nodeT HR rfl]; rfl) rfl ?_
      rw [HVP.out, HVG.out]
      exact ⟨d, _, [{ x0 with ok := false }], rfl, HS.2.2.1, HC, by rw [← HX0.out]; rfl, HS.2.2.2⟩
   case true =>
    obtain ⟨PV, hPV⟩ : ∃ PV : Pn, PV = { p with vote := s1.v, wait := p.span } := ⟨_, rfl⟩
    have HPV := hI_ hPV
    have HVP := hI_ (show voteP p m = PV by rw [hPV]; exact HV0.out hl)
    have HVG := hI_ (show voteG p m = { msgG PV 4 m.fr with ok := true } by unfold voteG; rw [HVP.out, HGR.out])
    clear hPV
    go_wp2_with (first
     | (refine sCc (v := .int .u64 s1.v) rfl _ _ rfl rfl rfl ocU HN rfl rfl rfl ?_; intro w' hk hg; replace HR := HR.grown hg (by have := hyn.out; omega); replace HG := HG.grown hg (by have := hyn.out; omega); replace HX := HX.grown hg (by have := hxy.out; omega); replace HM := HM.grown hg hK HN.bx.ty bNd; replace HB := bGr HB hg HB.size (Nat.le_refl _); replace HN := hk; clear hk hg)
     | (refine sCc (v := .int .i64 p.span) rfl _ _ rfl rfl rfl ocI HN rfl rfl rfl ?_; intro w' hk hg; replace HR := HR.grown hg (by have := hyn.out; omega); replace HG := HG.grown hg (by have := hyn.out; omega); replace HX := HX.grown hg (by have := hxy.out; omega); replace HM := HM.grown hg hK HN.bx.ty bNd; replace HB := bGr HB hg HB.size (Nat.le_refl _); replace HN := hk; clear hk hg; (replace HN : Bk w' w.heap.size 34 (ndL PV d) := by rw [HPV.out]; exact HN); (replace HM : NdM K w' PV d := by rw [HPV.out]; exact HM.same rfl rfl rfl rfl rfl))
     | (refine lCc rfl _ rfl rfl (ocA rfl) (by assumption) rfl ?_)
     | (refine lBk rfl _ rfl rfl nodeT HN rfl ?_))
    refine (pMessage_any PV d 4 m.fr _).mono ?_
    rintro e w1 ⟨rfl, hb⟩
    replace HB := HB.trans (hb.mono HB.size)
    replace HR := HR.later hb
    replace HN := HN.later hb
    replace HM := HM.later hb
    clear hb HG HX
    obtain ⟨x0, hx0⟩ : ∃ x, msgG PV 4 m.fr = x := ⟨_, rfl⟩
    have HX0 := hI_ hx0
    rw [hx0]
    clear hx0
    obtain ⟨w2, yx, hw2, hyx', B2, HX, Z2⟩ := bk_new w1 (mgA x0) 52
    have hyx := hI_ (show w.heap.size < yx ∧ y < yx by have := HN.lt; have := HR.lt; omega)
    have B2' : Below w1.heap.size w1 w2 := hyx' ▸ B2
    replace HB := HB.trans (B2'.mono HB.size)
    replace HR := HR.later B2'
    replace HN := HN.later B2'
    replace HM := HM.later B2'
    unfold mgA at hw2
    clear B2 B2'
    go_wp2_with (first
     | (refine sCc (v := .bool true) rfl _ _ rfl rfl rfl ocB HX rfl rfl rfl ?_; intro w' hk hg; replace HN := HN.grown hg (by have := hyx.out; omega); replace HR := HR.grown hg (by have := hyx.out; omega); replace HM := HM.grown hg (by have := hyx.out; omega) HX.bx.ty boxMessage; replace HB := bGr HB hg HB.size (by have := hyx.out; omega); replace HX := hk; clear hk hg))
    replace HR := HR.later ((Below.refl _ _).drew)
    refine wp_region_held_drew (S := fun w' => Bk w' w.heap.size 34 (ndL PV d) ∧ Bk w' yx 52 (mgC { x0 with ok := true }) ∧ NdM K w' PV d ∧ Below w.heap.size w w') (by kernel_rfl) (⟨HN.later ((Below.refl _ _).drew), HX.later ((Below.refl _ _).drew), HM.later ((Below.refl _ _).drew), HB.drew⟩) (fun HS => ?_)
    refine tkh (i := 0) (v := (.agg (ndL PV d).toArray)) rfl ⟨by rfl, fun _ hSw => eLb _ rfl rfl nodeT hSw.1 rfl⟩ HS ?_
    refine tkh (i := 1) (v := (.agg (List.toArray (mgC { x0 with ok := true })))) rfl ⟨by rfl, fun _ hSw => eLb _ rfl rfl messT hSw.2.1 rfl⟩ HS ?_
    try simp only [ly, Act.put]
    refine wpAnyH_ready (rs := [2, 3]) (by kernel_rfl) (by simp) ?_
    refine AllReadyH.cons rfl (fun KK hK => ?_) (AllReadyH.cons rfl (fun KK hK => ?_) AllReadyH.nil)
    · obtain ⟨z, hz, BR, HC⟩ := row_at HS.2.2.2 HS.2.2.2.size { x0 with ok := true } (by show x0.es = []; rw [← HX0.out]; rfl)
      go_simp
      replace HR := HR.later BR
      clear hz
      refine hK.out _ _ ⟨HS.1.later BR, HS.2.1.later BR, HS.2.2.1.later BR, HS.2.2.2.trans (BR.mono HS.2.2.2.size)⟩ (fun HS => ?_)
      clear hK
      try simp only [ly, Act.put]
      refine onh (r := 3) (by kernel_rfl) rfl (fun KK hK => ?_)
      rw [if_pos (by rfl)]
      refine wSb _ _ rfl rfl (M := ndL PV d) rfl nodeT HR rfl rfl rfl ?_
      intro w' hk hg
      (try replace HC := HC.box hg HR.bx.ty boxNm)
      have HS9 := And.intro (HS.1.grown hg (by have := hyn.out; omega)) (And.intro (HS.2.1.grown hg (by have := hyx.out; omega)) (And.intro (HS.2.2.1.grown hg (by have := hyn.out; omega) HR.bx.ty bNd) (bGr HS.2.2.2 hg HS.2.2.2.size (by have := hyn.out; omega))))
      replace HR := hk
      clear hk hg
      refine hK.out _ _ HS9 (fun HS => ?_)
      clear HS9
      clear hK
      try simp only [ly, Act.put]
      refine tkp (i := 4) rfl HS ?_
      try simp only [ly, Act.put]
      refine wpAnyH_done (by kernel_rfl) ?_ _
      go_wp2_with fail
      refine bodyPost_ret (v := .tuple #[ndV PV d, .slice (some ⟨z, 0, none⟩) 1 1]) (by rw [rBt Tryz.results37 _ rfl nodeT HR rfl]; rfl) rfl ?_
      rw [HVP.out, HVG.out]
      exact ⟨d, _, [{ x0 with ok := true }], rfl, HS.2.2.1, HC, by rw [← HX0.out]; rfl, HS.2.2.2⟩
    · rw [if_pos (by rfl)]
      refine wSb _ _ rfl rfl (M := ndL PV d) rfl nodeT HR rfl rfl rfl ?_
      intro w' hk hg
      (try replace HC := HC.box hg HR.bx.ty boxNm)
      have HS9 := And.intro (HS.1.grown hg (by have := hyn.out; omega)) (And.intro (HS.2.1.grown hg (by have := hyx.out; omega)) (And.intro (HS.2.2.1.grown hg (by have := hyn.out; omega) HR.bx.ty bNd) (bGr HS.2.2.2 hg HS.2.2.2.size (by have := hyn.out; omega))))
      replace HR := hk
      clear hk hg
      refine hK.out _ _ HS9 (fun HS => ?_)
      clear HS9
      clear hK
      try simp only [ly, Act.put]
      refine onh (r := 2) (by kernel_rfl) rfl (fun KK hK => ?_)
      obtain ⟨z, hz, BR, HC⟩ := row_at HS.2.2.2 HS.2.2.2.size { x0 with ok := true } (by show x0.es = []; rw [← HX0.out]; rfl)
      go_simp
      replace HR := HR.later BR
      clear hz
      refine hK.out _ _ ⟨HS.1.later BR, HS.2.1.later BR, HS.2.2.1.later BR, HS.2.2.2.trans (BR.mono HS.2.2.2.size)⟩ (fun HS => ?_)
      clear hK
      try simp only [ly, Act.put]
      refine tkp (i := 4) rfl HS ?_
      try simp only [ly, Act.put]
      refine wpAnyH_done (by kernel_rfl) ?_ _
      go_wp2_with fail
      refine bodyPost_ret (v := .tuple #[ndV PV d, .slice (some ⟨z, 0, none⟩) 1 1]) (by rw [rBt Tryz.results37 _ rfl nodeT HR rfl]; rfl) rfl ?_
      rw [HVP.out, HVG.out]
      exact ⟨d, _, [{ x0 with ok := true }], rfl, HS.2.2.1, HC, by rw [← HX0.out]; rfl, HS.2.2.2⟩
end Go.Proofs.YtdcpiaoadbbdoaaGreat
