/- A leader's snapshot is installed. -/
import Derived.Test.YtdcpiaoadbbdoaaGreatBulk
import Derived.Test.YtdcpiaoadbbdoaaGreatQjn
set_option maxRecDepth 100000
set_option maxHeartbeats 16000000
namespace Go.Proofs.YtdcpiaoadbbdoaaGreat
open Go.RowKit

theorem NdM.fr {K : Nat} {w w' : World} {p : Pn} {d : Ad} (h : NdM K w p d) (hb : Below w.heap.size w w') {a : Option Addr} {c : Nat} {g : Lg} (hc : g.L.length ≤ c) (hm : c ≤ maxLen) (hp : Fr w d.e.a p.g.L w' a g.L) : NdM K w' { p with g := g } { d with e := ⟨a, c⟩ } := by
 exact h.log hb (hp.out h.e hb) hc hm hp.pl
theorem pInstall8_any (p : Pn) (d : Ad) (hBd : Bd p) (m : Mg) (hm : Bm m) (K : Nat) (w : World) (hK : K ≤ w.heap.size) (hM : NdM K w p d) :
 Calls Tryz.prog 78 #[ndV p d, mgV m] w (NmP K w (instP p m)) := by
 obtain ⟨W, hW, B0, N0, Z0⟩ := nk_new w p d
 obtain ⟨Wm, ym, hWm, hym, Bm, HG, Zm⟩ := bk_new W (mgA m) 52
 obtain ⟨W1, y, hW1, hy, B1, HR, Z1⟩ := bk_new Wm znA 34
 have Bm' : Below W.heap.size W Wm := hym ▸ Bm
 have B1' : Below Wm.heap.size Wm W1 := hy ▸ B1
 have HB1 := B0.trans (Bm'.mono B0.size)
 have HN := (N0.later Bm').later B1'
 replace HG := HG.later B1'
 have HB := HB1.trans (B1'.mono HB1.size)
 have hyn := hI_ (show w.heap.size < y ∧ w.heap.size < ym ∧ ym < y by have := Z0.out; have := Zm.out; omega)
 clear B0 N0 B1 Bm Bm' B1' HB1
 unfold ndA at hW
 unfold mgA at hWm
 unfold znA at hW1
 have HM := hM.later HB
 have HAP := hI_ (show ∀ w1, Calls Tryz.prog 81 #[.string m.snap] w1 (ApP m.snap.data.toList w1) from fun w1 => by
  have h0 : m.snap.data.toList.length ≤ 140737488351232 := by rw [Array.length_toList]; exact hm.snap
  have h1 := pApp_any m.snap.data.toList h0 w1
  rw [Array.toArray_toList] at h1
  exact h1)
 clear hM
 go_enter Tryz.func78, Tryz.ntmps78
 go_wp2_with (first
  | (refine lCc rfl _ rfl rfl (ocA rfl) (by assumption) rfl ?_))
 refine (HAP.out _).mono ?_
 rintro e w2 ⟨c2, s1, s2, r2, o2, rfl, ha, hu1, hu2, _, _, hb⟩
 have HA0 := hI_ ha
 replace HB := HB.trans (hb.mono HB.size)
 replace HN := HN.later hb
 replace HG := HG.later hb
 replace HR := HR.later hb
 replace HM := HM.later hb
 clear hb ha hu1 hu2
 obtain ⟨w3, yl, hw3, hyl', B3, HL, Z3⟩ := bk_new w2 #[.slice s1.a c2.V.length s1.c, .slice s2.a c2.L.length s2.c] 25
 have B3' : Below w2.heap.size w2 w3 := hyl' ▸ B3
 replace HB := HB.trans (B3'.mono HB.size)
 replace HN := HN.later B3'
 replace HG := HG.later B3'
 replace HR := HR.later B3'
 replace HM := HM.later B3'
 clear B3 B3' HL
 have c3 := HN.bx.c 3 _ rfl
 have c11 := HN.bx.c 11 _ rfl
 have e4 := HG.bx.c 4 _ rfl
 have e5 := HG.bx.c 5 _ rfl
 have e9 := HG.bx.c 9 _ rfl
 cases o2
 case false =>
  go_wp2_with fail
  have HJP := hI_ (show instP p m = (p, [replyG p m.fr true p.commit]) by unfold instP instQ; rw [if_neg (fun h => by unfold instOk at h; obtain ⟨h0, h1', h2', h3', h4'⟩ := h; rw [HA0.out] at h0; exact absurd h0 (by simp))])
  replace HR := HR.later ((Below.refl _ _).drew)
  refine wp_region_held_drew (S := fun w' => Bk w' w.heap.size 34 (ndL p d) ∧ Bk w' ym 52 (mgC m) ∧ NdM K w' p d ∧ Below w.heap.size w w') (by kernel_rfl) (⟨HN.later ((Below.refl _ _).drew), HG.later ((Below.refl _ _).drew), HM.later ((Below.refl _ _).drew), HB.drew⟩) (fun HS => ?_)
  refine tkh (i := 0) (v := (.agg (ndL p d).toArray)) rfl ⟨by rfl, fun _ hSw => eLb _ rfl rfl nodeT hSw.1 rfl⟩ HS ?_
  refine tkh (i := 1) (v := (.agg (ndL p d).toArray)) rfl ⟨by rfl, fun _ hSw => eLb _ rfl rfl nodeT hSw.1 rfl⟩ HS ?_
  try simp only [ly, Act.put]
  refine tkp (i := 2) rfl HS ?_
  refine tkh (i := 3) (v := (.int .u64 m.fr)) rfl ⟨by rfl, fun _ hSw => exec_load_c _ rfl rfl ocU hSw.2.1 rfl⟩ HS ?_
  try simp only [ly, Act.put]
  refine tkp (i := 4) rfl HS ?_
  refine tkh (i := 5) (v := (.int .u64 p.commit)) rfl ⟨by rfl, fun _ hSw => exec_load_c _ rfl rfl ocU hSw.1 rfl⟩ HS ?_
  try simp only [ly, Act.put]
  refine onh (r := 6) (by kernel_rfl) rfl (fun KK hK => ?_)
  go_simp
  refine (pReply_any p d m.fr true p.commit _).mono ?_
  rintro e w5 ⟨v, O, rfl, hC, hO, hb⟩
  have HC := hC.mono HS.2.2.2.size
  have HO := hI_ hO
  clear hC hO
  replace HR := HR.later hb
  go_wp2_with fail
  refine hK.out _ _ ⟨HS.1.later hb, HS.2.1.later hb, HS.2.2.1.later hb, HS.2.2.2.trans (hb.mono HS.2.2.2.size)⟩ (fun HS => ?_)
  clear hK
  try simp only [ly, Act.put]
  refine onh (r := 7) (by kernel_rfl) rfl (fun KK hK => ?_)
  rw [if_pos (by rfl)]
  refine wSb _ _ rfl rfl (M := ndL p d) rfl nodeT HR rfl rfl rfl ?_
  intro w' hk hg
  have HS9 := And.intro (HS.1.grown hg (by have := hyn.out; omega)) (And.intro (HS.2.1.grown hg (by have := hyn.out; omega)) (And.intro (HS.2.2.1.grown hg (by have := hyn.out; omega) HR.bx.ty bNd) (bGr HS.2.2.2 hg HS.2.2.2.size (by have := hyn.out; omega))))
  have HC := HC.box hg HR.bx.ty boxNm
  replace HR := hk
  clear hk hg
  refine hK.out _ _ HS9 (fun HS => ?_)
  clear HS9
  clear hK
  try simp only [ly, Act.put]
  refine tkp (i := 8) rfl HS ?_
  try simp only [ly, Act.put]
  refine wpAnyH_done (by kernel_rfl) ?_ _
  go_wp2_with fail
  refine bodyPost_ret (v := .tuple #[ndV p d, v]) (by rw [rBt Tryz.results78 _ rfl nodeT HR rfl]; rfl) rfl ?_
  rw [HJP.out]
  exact ⟨d, v, O, rfl, HS.2.2.1, HC, HO.out, HS.2.2.2⟩
 case true =>
  by_cases h1 : m.snap.size ≤ 4096
  case neg =>
   have g1 : ¬ (m.snap.size : Int) ≤ 4096 := by omega
   go_wp2_with fail
   have HJP := hI_ (show instP p m = (p, [replyG p m.fr true p.commit]) by unfold instP instQ; rw [if_neg (fun h => by unfold instOk at h; obtain ⟨h0, h1', h2', h3', h4'⟩ := h; exact h1 h1')])
   replace HR := HR.later ((Below.refl _ _).drew)
   refine wp_region_held_drew (S := fun w' => Bk w' w.heap.size 34 (ndL p d) ∧ Bk w' ym 52 (mgC m) ∧ NdM K w' p d ∧ Below w.heap.size w w') (by kernel_rfl) (⟨HN.later ((Below.refl _ _).drew), HG.later ((Below.refl _ _).drew), HM.later ((Below.refl _ _).drew), HB.drew⟩) (fun HS => ?_)
   refine tkh (i := 0) (v := (.agg (ndL p d).toArray)) rfl ⟨by rfl, fun _ hSw => eLb _ rfl rfl nodeT hSw.1 rfl⟩ HS ?_
   refine tkh (i := 1) (v := (.agg (ndL p d).toArray)) rfl ⟨by rfl, fun _ hSw => eLb _ rfl rfl nodeT hSw.1 rfl⟩ HS ?_
   try simp only [ly, Act.put]
   refine tkp (i := 2) rfl HS ?_
   refine tkh (i := 3) (v := (.int .u64 m.fr)) rfl ⟨by rfl, fun _ hSw => exec_load_c _ rfl rfl ocU hSw.2.1 rfl⟩ HS ?_
   try simp only [ly, Act.put]
   refine tkp (i := 4) rfl HS ?_
   refine tkh (i := 5) (v := (.int .u64 p.commit)) rfl ⟨by rfl, fun _ hSw => exec_load_c _ rfl rfl ocU hSw.1 rfl⟩ HS ?_
   try simp only [ly, Act.put]
   refine onh (r := 6) (by kernel_rfl) rfl (fun KK hK => ?_)
   go_simp
   refine (pReply_any p d m.fr true p.commit _).mono ?_
   rintro e w5 ⟨v, O, rfl, hC, hO, hb⟩
   have HC := hC.mono HS.2.2.2.size
   have HO := hI_ hO
   clear hC hO
   replace HR := HR.later hb
   go_wp2_with fail
   refine hK.out _ _ ⟨HS.1.later hb, HS.2.1.later hb, HS.2.2.1.later hb, HS.2.2.2.trans (hb.mono HS.2.2.2.size)⟩ (fun HS => ?_)
   clear hK
   try simp only [ly, Act.put]
   refine onh (r := 7) (by kernel_rfl) rfl (fun KK hK => ?_)
   rw [if_pos (by rfl)]
   refine wSb _ _ rfl rfl (M := ndL p d) rfl nodeT HR rfl rfl rfl ?_
   intro w' hk hg
   have HS9 := And.intro (HS.1.grown hg (by have := hyn.out; omega)) (And.intro (HS.2.1.grown hg (by have := hyn.out; omega)) (And.intro (HS.2.2.1.grown hg (by have := hyn.out; omega) HR.bx.ty bNd) (bGr HS.2.2.2 hg HS.2.2.2.size (by have := hyn.out; omega))))
   have HC := HC.box hg HR.bx.ty boxNm
   replace HR := hk
   clear hk hg
   refine hK.out _ _ HS9 (fun HS => ?_)
   clear HS9
   clear hK
   try simp only [ly, Act.put]
   refine tkp (i := 8) rfl HS ?_
   try simp only [ly, Act.put]
   refine wpAnyH_done (by kernel_rfl) ?_ _
   go_wp2_with fail
   refine bodyPost_ret (v := .tuple #[ndV p d, v]) (by rw [rBt Tryz.results78 _ rfl nodeT HR rfl]; rfl) rfl ?_
   rw [HJP.out]
   exact ⟨d, v, O, rfl, HS.2.2.1, HC, HO.out, HS.2.2.2⟩
  case pos =>
   have g1 : (m.snap.size : Int) ≤ 4096 := by omega
   by_cases h2 : m.lt ≤ p.term
   case neg =>
    have g2 : ¬ (m.lt : Int) ≤ (p.term : Int) := by omega
    go_wp2_with fail
    have HJP := hI_ (show instP p m = (p, [replyG p m.fr true p.commit]) by unfold instP instQ; rw [if_neg (fun h => by unfold instOk at h; obtain ⟨h0, h1', h2', h3', h4'⟩ := h; exact h2 h2')])
    replace HR := HR.later ((Below.refl _ _).drew)
    refine wp_region_held_drew (S := fun w' => Bk w' w.heap.size 34 (ndL p d) ∧ Bk w' ym 52 (mgC m) ∧ NdM K w' p d ∧ Below w.heap.size w w') (by kernel_rfl) (⟨HN.later ((Below.refl _ _).drew), HG.later ((Below.refl _ _).drew), HM.later ((Below.refl _ _).drew), HB.drew⟩) (fun HS => ?_)
    refine tkh (i := 0) (v := (.agg (ndL p d).toArray)) rfl ⟨by rfl, fun _ hSw => eLb _ rfl rfl nodeT hSw.1 rfl⟩ HS ?_
    refine tkh (i := 1) (v := (.agg (ndL p d).toArray)) rfl ⟨by rfl, fun _ hSw => eLb _ rfl rfl nodeT hSw.1 rfl⟩ HS ?_
    try simp only [ly, Act.put]
    refine tkp (i := 2) rfl HS ?_
    refine tkh (i := 3) (v := (.int .u64 m.fr)) rfl ⟨by rfl, fun _ hSw => exec_load_c _ rfl rfl ocU hSw.2.1 rfl⟩ HS ?_
    try simp only [ly, Act.put]
    refine tkp (i := 4) rfl HS ?_
    refine tkh (i := 5) (v := (.int .u64 p.commit)) rfl ⟨by rfl, fun _ hSw => exec_load_c _ rfl rfl ocU hSw.1 rfl⟩ HS ?_
    try simp only [ly, Act.put]
    refine onh (r := 6) (by kernel_rfl) rfl (fun KK hK => ?_)
    go_simp
    refine (pReply_any p d m.fr true p.commit _).mono ?_
    rintro e w5 ⟨v, O, rfl, hC, hO, hb⟩
    have HC := hC.mono HS.2.2.2.size
    have HO := hI_ hO
    clear hC hO
    replace HR := HR.later hb
    go_wp2_with fail
    refine hK.out _ _ ⟨HS.1.later hb, HS.2.1.later hb, HS.2.2.1.later hb, HS.2.2.2.trans (hb.mono HS.2.2.2.size)⟩ (fun HS => ?_)
    clear hK
    try simp only [ly, Act.put]
    refine onh (r := 7) (by kernel_rfl) rfl (fun KK hK => ?_)
    rw [if_pos (by rfl)]
    refine wSb _ _ rfl rfl (M := ndL p d) rfl nodeT HR rfl rfl rfl ?_
    intro w' hk hg
    have HS9 := And.intro (HS.1.grown hg (by have := hyn.out; omega)) (And.intro (HS.2.1.grown hg (by have := hyn.out; omega)) (And.intro (HS.2.2.1.grown hg (by have := hyn.out; omega) HR.bx.ty bNd) (bGr HS.2.2.2 hg HS.2.2.2.size (by have := hyn.out; omega))))
    have HC := HC.box hg HR.bx.ty boxNm
    replace HR := hk
    clear hk hg
    refine hK.out _ _ HS9 (fun HS => ?_)
    clear HS9
    clear hK
    try simp only [ly, Act.put]
    refine tkp (i := 8) rfl HS ?_
    try simp only [ly, Act.put]
    refine wpAnyH_done (by kernel_rfl) ?_ _
    go_wp2_with fail
    refine bodyPost_ret (v := .tuple #[ndV p d, v]) (by rw [rBt Tryz.results78 _ rfl nodeT HR rfl]; rfl) rfl ?_
    rw [HJP.out]
    exact ⟨d, v, O, rfl, HS.2.2.1, HC, HO.out, HS.2.2.2⟩
   case pos =>
    have g2 : (m.lt : Int) ≤ (p.term : Int) := by omega
    by_cases h3 : p.commit < m.i
    case neg =>
     have g3 : ¬ (p.commit : Int) < (m.i : Int) := by omega
     go_wp2_with fail
     have HJP := hI_ (show instP p m = (p, [replyG p m.fr true p.commit]) by unfold instP instQ; rw [if_neg (fun h => by unfold instOk at h; obtain ⟨h0, h1', h2', h3', h4'⟩ := h; exact h3 h3')])
     replace HR := HR.later ((Below.refl _ _).drew)
     refine wp_region_held_drew (S := fun w' => Bk w' w.heap.size 34 (ndL p d) ∧ Bk w' ym 52 (mgC m) ∧ NdM K w' p d ∧ Below w.heap.size w w') (by kernel_rfl) (⟨HN.later ((Below.refl _ _).drew), HG.later ((Below.refl _ _).drew), HM.later ((Below.refl _ _).drew), HB.drew⟩) (fun HS => ?_)
     refine tkh (i := 0) (v := (.agg (ndL p d).toArray)) rfl ⟨by rfl, fun _ hSw => eLb _ rfl rfl nodeT hSw.1 rfl⟩ HS ?_
     refine tkh (i := 1) (v := (.agg (ndL p d).toArray)) rfl ⟨by rfl, fun _ hSw => eLb _ rfl rfl nodeT hSw.1 rfl⟩ HS ?_
     try simp only [ly, Act.put]
     refine tkp (i := 2) rfl HS ?_
     refine tkh (i := 3) (v := (.int .u64 m.fr)) rfl ⟨by rfl, fun _ hSw => exec_load_c _ rfl rfl ocU hSw.2.1 rfl⟩ HS ?_
     try simp only [ly, Act.put]
     refine tkp (i := 4) rfl HS ?_
     refine tkh (i := 5) (v := (.int .u64 p.commit)) rfl ⟨by rfl, fun _ hSw => exec_load_c _ rfl rfl ocU hSw.1 rfl⟩ HS ?_
     try simp only [ly, Act.put]
     refine onh (r := 6) (by kernel_rfl) rfl (fun KK hK => ?_)
     go_simp
     refine (pReply_any p d m.fr true p.commit _).mono ?_
     rintro e w5 ⟨v, O, rfl, hC, hO, hb⟩
     have HC := hC.mono HS.2.2.2.size
     have HO := hI_ hO
     clear hC hO
     replace HR := HR.later hb
     go_wp2_with fail
     refine hK.out _ _ ⟨HS.1.later hb, HS.2.1.later hb, HS.2.2.1.later hb, HS.2.2.2.trans (hb.mono HS.2.2.2.size)⟩ (fun HS => ?_)
     clear hK
     try simp only [ly, Act.put]
     refine onh (r := 7) (by kernel_rfl) rfl (fun KK hK => ?_)
     rw [if_pos (by rfl)]
     refine wSb _ _ rfl rfl (M := ndL p d) rfl nodeT HR rfl rfl rfl ?_
     intro w' hk hg
     have HS9 := And.intro (HS.1.grown hg (by have := hyn.out; omega)) (And.intro (HS.2.1.grown hg (by have := hyn.out; omega)) (And.intro (HS.2.2.1.grown hg (by have := hyn.out; omega) HR.bx.ty bNd) (bGr HS.2.2.2 hg HS.2.2.2.size (by have := hyn.out; omega))))
     have HC := HC.box hg HR.bx.ty boxNm
     replace HR := hk
     clear hk hg
     refine hK.out _ _ HS9 (fun HS => ?_)
     clear HS9
     clear hK
     try simp only [ly, Act.put]
     refine tkp (i := 8) rfl HS ?_
     try simp only [ly, Act.put]
     refine wpAnyH_done (by kernel_rfl) ?_ _
     go_wp2_with fail
     refine bodyPost_ret (v := .tuple #[ndV p d, v]) (by rw [rBt Tryz.results78 _ rfl nodeT HR rfl]; rfl) rfl ?_
     rw [HJP.out]
     exact ⟨d, v, O, rfl, HS.2.2.1, HC, HO.out, HS.2.2.2⟩
    case pos =>
     have g3 : (p.commit : Int) < (m.i : Int) := by omega
     by_cases h4 : m.i ≤ 1099511627776
     case neg =>
      have g4 : decide ((m.i : Int) ≤ 1099511627776) = false := by simp; omega
      go_wp2_with fail
      have HJP := hI_ (show instP p m = (p, [replyG p m.fr true p.commit]) by unfold instP instQ; rw [if_neg (fun h => by unfold instOk at h; obtain ⟨h0, h1', h2', h3', h4'⟩ := h; exact h4 h4')])
      replace HR := HR.later ((Below.refl _ _).drew)
      refine wp_region_held_drew (S := fun w' => Bk w' w.heap.size 34 (ndL p d) ∧ Bk w' ym 52 (mgC m) ∧ NdM K w' p d ∧ Below w.heap.size w w') (by kernel_rfl) (⟨HN.later ((Below.refl _ _).drew), HG.later ((Below.refl _ _).drew), HM.later ((Below.refl _ _).drew), HB.drew⟩) (fun HS => ?_)
      refine tkh (i := 0) (v := (.agg (ndL p d).toArray)) rfl ⟨by rfl, fun _ hSw => eLb _ rfl rfl nodeT hSw.1 rfl⟩ HS ?_
      refine tkh (i := 1) (v := (.agg (ndL p d).toArray)) rfl ⟨by rfl, fun _ hSw => eLb _ rfl rfl nodeT hSw.1 rfl⟩ HS ?_
      try simp only [ly, Act.put]
      refine tkp (i := 2) rfl HS ?_
      refine tkh (i := 3) (v := (.int .u64 m.fr)) rfl ⟨by rfl, fun _ hSw => exec_load_c _ rfl rfl ocU hSw.2.1 rfl⟩ HS ?_
      try simp only [ly, Act.put]
      refine tkp (i := 4) rfl HS ?_
      refine tkh (i := 5) (v := (.int .u64 p.commit)) rfl ⟨by rfl, fun _ hSw => exec_load_c _ rfl rfl ocU hSw.1 rfl⟩ HS ?_
      try simp only [ly, Act.put]
      refine onh (r := 6) (by kernel_rfl) rfl (fun KK hK => ?_)
      go_simp
      refine (pReply_any p d m.fr true p.commit _).mono ?_
      rintro e w5 ⟨v, O, rfl, hC, hO, hb⟩
      have HC := hC.mono HS.2.2.2.size
      have HO := hI_ hO
      clear hC hO
      replace HR := HR.later hb
      go_wp2_with fail
      refine hK.out _ _ ⟨HS.1.later hb, HS.2.1.later hb, HS.2.2.1.later hb, HS.2.2.2.trans (hb.mono HS.2.2.2.size)⟩ (fun HS => ?_)
      clear hK
      try simp only [ly, Act.put]
      refine onh (r := 7) (by kernel_rfl) rfl (fun KK hK => ?_)
      rw [if_pos (by rfl)]
      refine wSb _ _ rfl rfl (M := ndL p d) rfl nodeT HR rfl rfl rfl ?_
      intro w' hk hg
      have HS9 := And.intro (HS.1.grown hg (by have := hyn.out; omega)) (And.intro (HS.2.1.grown hg (by have := hyn.out; omega)) (And.intro (HS.2.2.1.grown hg (by have := hyn.out; omega) HR.bx.ty bNd) (bGr HS.2.2.2 hg HS.2.2.2.size (by have := hyn.out; omega))))
      have HC := HC.box hg HR.bx.ty boxNm
      replace HR := hk
      clear hk hg
      refine hK.out _ _ HS9 (fun HS => ?_)
      clear HS9
      clear hK
      try simp only [ly, Act.put]
      refine tkp (i := 8) rfl HS ?_
      try simp only [ly, Act.put]
      refine wpAnyH_done (by kernel_rfl) ?_ _
      go_wp2_with fail
      refine bodyPost_ret (v := .tuple #[ndV p d, v]) (by rw [rBt Tryz.results78 _ rfl nodeT HR rfl]; rfl) rfl ?_
      rw [HJP.out]
      exact ⟨d, v, O, rfl, HS.2.2.1, HC, HO.out, HS.2.2.2⟩
     case pos =>
      have g4 : decide ((m.i : Int) ≤ 1099511627776) = true := by simp; omega
      go_wp2_with (first
       | (refine lSb rfl _ rfl rfl [.int .u64 p.g.base, .int .u64 p.g.bt, .string p.g.snap, .slice d.e.a p.g.L.length d.e.c] logT HN rfl rfl ?_)
       | (refine lCc rfl _ rfl rfl (ocA rfl) (by assumption) rfl ?_))
      clear c3 c11 e4 e5 e9
      refine (pInstall_any _ _ _ _ m.i m.lt _ m.snap d.e.a p.g.L rfl (by have := hBd.ents; omega) HM.ec HM.em hBd.base hm.i _ HM.e).mono ?_
      obtain ⟨g1, hg1⟩ : ∃ g1, insG ⟨p.g.base, p.g.bt, p.g.snap, p.g.L⟩ m.i m.lt m.snap = g1 := ⟨_, rfl⟩
      rw [hg1]
      have HG1 := hI_ (show insG p.g m.i m.lt m.snap = g1 from hg1)
      clear hg1
      rintro e w3 ⟨a1, c1, rfl, hc1, hc2, hF1, hb⟩
      have HMJ : NdM K w3 { p with g := g1 } { d with e := ⟨a1, c1⟩ } := HM.fr hb hc1 hc2 hF1
      replace HB := HB.trans (hb.mono HB.size)
      replace HN := HN.later hb
      replace HG := HG.later hb
      replace HR := HR.later hb
      replace HM := HMJ
      clear hb hc1 hc2 hF1 HMJ
      obtain ⟨P, hP⟩ : ∃ P : Pn, P = { p with g := g1, commit := m.i } := ⟨_, rfl⟩
      obtain ⟨D, hD⟩ : ∃ D : Ad, D = { d with e := ⟨a1, c1⟩ } := ⟨_, rfl⟩
      have HPE := hI_ hP
      have HDE := hI_ hD
      have HJP := hI_ (show instP p m = (P, [replyG P m.fr true P.commit]) by unfold instP instQ; rw [if_pos (by unfold instOk; exact ⟨by rw [HA0.out]; rfl, h1, h2, h3, h4⟩), HG1.out, hP]; rfl)
      clear hP hD
      go_wp2_with (first
       | (refine wpList_store_sub rfl _ _ rfl rfl rfl logT HN rfl rfl rfl (L' := ndL { p with g := g1 } { d with e := ⟨a1, c1⟩ }) rfl ?_; intro w' hk hg; replace HR := HR.grown hg (by have := hyn.out; omega); replace HG := HG.grown hg (by have := hyn.out; omega); replace HM := HM.grown hg hK HN.bx.ty bNd; replace HB := bGr HB hg HB.size (Nat.le_refl _); replace HN := hk; clear hk hg)
       | (refine lCc rfl _ rfl rfl (ocA rfl) (by assumption) rfl ?_)
       | (refine sCc (v := .int .u64 m.i) rfl _ _ rfl rfl rfl ocU HN rfl rfl rfl ?_; intro w' hk hg; replace HR := HR.grown hg (by have := hyn.out; omega); replace HG := HG.grown hg (by have := hyn.out; omega); replace HM := HM.grown hg hK HN.bx.ty bNd; replace HB := bGr HB hg HB.size (Nat.le_refl _); replace HN := hk; clear hk hg; (replace HN : Bk w' w.heap.size 34 (ndL P D) := by rw [HPE.out, HDE.out]; exact HN); (replace HM : NdM K w' P D := by rw [HPE.out, HDE.out]; exact HM.same rfl rfl rfl rfl rfl)))
      replace HR := HR.later ((Below.refl _ _).drew)
      refine wp_region_held_drew (S := fun w' => Bk w' w.heap.size 34 (ndL P D) ∧ Bk w' ym 52 (mgC m) ∧ NdM K w' P D ∧ Below w.heap.size w w') (by kernel_rfl) (⟨HN.later ((Below.refl _ _).drew), HG.later ((Below.refl _ _).drew), HM.later ((Below.refl _ _).drew), HB.drew⟩) (fun HS => ?_)
      refine tkh (i := 0) (v := (.agg (ndL P D).toArray)) rfl ⟨by rfl, fun _ hSw => eLb _ rfl rfl nodeT hSw.1 rfl⟩ HS ?_
      refine tkh (i := 1) (v := (.agg (ndL P D).toArray)) rfl ⟨by rfl, fun _ hSw => eLb _ rfl rfl nodeT hSw.1 rfl⟩ HS ?_
      try simp only [ly, Act.put]
      refine tkp (i := 2) rfl HS ?_
      refine tkh (i := 3) (v := (.int .u64 m.fr)) rfl ⟨by rfl, fun _ hSw => exec_load_c _ rfl rfl ocU hSw.2.1 rfl⟩ HS ?_
      try simp only [ly, Act.put]
      refine tkp (i := 4) rfl HS ?_
      refine tkh (i := 5) (v := (.int .u64 P.commit)) rfl ⟨by rfl, fun _ hSw => exec_load_c _ rfl rfl ocU hSw.1 rfl⟩ HS ?_
      try simp only [ly, Act.put]
      refine onh (r := 6) (by kernel_rfl) rfl (fun KK hK => ?_)
      go_simp
      refine (pReply_any P D m.fr true P.commit _).mono ?_
      rintro e w5 ⟨v, O, rfl, hC, hO, hb⟩
      have HC := hC.mono HS.2.2.2.size
      have HO := hI_ hO
      clear hC hO
      replace HR := HR.later hb
      go_wp2_with fail
      refine hK.out _ _ ⟨HS.1.later hb, HS.2.1.later hb, HS.2.2.1.later hb, HS.2.2.2.trans (hb.mono HS.2.2.2.size)⟩ (fun HS => ?_)
      clear hK
      try simp only [ly, Act.put]
      refine onh (r := 7) (by kernel_rfl) rfl (fun KK hK => ?_)
      rw [if_pos (by rfl)]
      refine wSb _ _ rfl rfl (M := ndL P D) rfl nodeT HR rfl rfl rfl ?_
      intro w' hk hg
      have HS9 := And.intro (HS.1.grown hg (by have := hyn.out; omega)) (And.intro (HS.2.1.grown hg (by have := hyn.out; omega)) (And.intro (HS.2.2.1.grown hg (by have := hyn.out; omega) HR.bx.ty bNd) (bGr HS.2.2.2 hg HS.2.2.2.size (by have := hyn.out; omega))))
      have HC := HC.box hg HR.bx.ty boxNm
      replace HR := hk
      clear hk hg
      refine hK.out _ _ HS9 (fun HS => ?_)
      clear HS9
      clear hK
      try simp only [ly, Act.put]
      refine tkp (i := 8) rfl HS ?_
      try simp only [ly, Act.put]
      refine wpAnyH_done (by kernel_rfl) ?_ _
      go_wp2_with fail
      refine bodyPost_ret (v := .tuple #[ndV P D, v]) (by rw [rBt Tryz.results78 _ rfl nodeT HR rfl]; rfl) rfl ?_
      rw [HJP.out]
      exact ⟨D, v, O, rfl, HS.2.2.1, HC, HO.out, HS.2.2.2⟩
end Go.Proofs.YtdcpiaoadbbdoaaGreat
