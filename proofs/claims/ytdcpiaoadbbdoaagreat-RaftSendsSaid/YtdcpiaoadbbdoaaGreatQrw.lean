/- What a node would answer, asked for its vote. -/
import Derived.Test.YtdcpiaoadbbdoaaGreatBulk
import Derived.Test.YtdcpiaoadbbdoaaGreatQse
import Derived.Test.YtdcpiaoadbbdoaaGreatQmb
import Derived.Test.YtdcpiaoadbbdoaaGreatWb
set_option maxRecDepth 100000
set_option maxHeartbeats 16000000
namespace Go.Proofs.YtdcpiaoadbbdoaaGreat
open Go.RowKit

theorem bk_at {B : Nat} {v w0 : World} (_h : Below B v w0) (os : Array Value) (T : TypeId) : ∃ W y, w0.alloc (.cells os T) = W ∧ w0.heap.size = y ∧ Below w0.heap.size w0 W ∧ Bk W y T os.toList ∧ Hid (W.heap.size = y + 1) :=
 ⟨_, _, rfl, rfl, (Below.refl _ _).alloc (Nat.le_refl _) _, Bk.new _ _ _, hI_ (by simp)⟩
theorem boxSeat : BoxT 115 := by unfold BoxT; decide
theorem pForetell_any (p : Pn) (d : Ad) (hBd : Bd p) (m : Mg) (K : Nat) (w : World) (hK : K ≤ w.heap.size) (hM : NdM K w p d) :
 Calls Tryz.prog 36 #[ndV p d, mgV m] w (MsP w [foreG p m]) := by
 obtain ⟨W, hW, B0, N0, Z0⟩ := nk_new w p d
 obtain ⟨Wm, ym, hWm, hym, Bm, HG, Zm⟩ := bk_new W (mgA m) 52
 have Bm' : Below W.heap.size W Wm := hym ▸ Bm
 have HB := B0.trans (Bm'.mono B0.size)
 have HN := N0.later Bm'
 have hyn := hI_ (show w.heap.size < ym by have := Z0.out; omega)
 have HM := hM.later HB
 clear B0 N0 Bm Bm'
 unfold ndA at hW
 unfold mgA at hWm
 obtain ⟨s1, gr, hs⟩ : ∃ s1 gr, ansS (seatP p) ⟨m.term, m.fr, m.lt, m.i, true⟩ = (s1, gr) := ⟨_, _, rfl⟩
 have HA := hI_ (show ∀ w1, Calls Tryz.prog 70 #[.agg #[.int .u64 p.term, .int .u64 p.vote, .int .u64 p.endT, .int .u64 p.endI, .bool (decide (p.role = 3) || decide (0 < p.heard))], .agg #[.int .u64 m.term, .int .u64 m.fr, .int .u64 m.lt, .int .u64 m.i, .bool true]] w1 (AnP w1 (s1, gr)) from fun w1 => by rw [← hs]; exact pAnswer_any _ _ _ _ _ _ _ _ _ _ w1)
 have HS0 := hI_ (show ∀ w1, Below w.heap.size w w1 → Calls Tryz.prog 71 #[ndV p d] w1 fun e w' => e = .returned (.agg #[.int .u64 p.term, .int .u64 p.vote, .int .u64 p.endT, .int .u64 p.endI, .bool (decide (p.role = 3) || decide (0 < p.heard))]) ∧ Below w1.heap.size w1 w' from fun w1 hb => pSeat_any p d hBd K w1 (hM.later hb))
 have HF := hI_ (show foreG p m = { msgG p 2 m.fr with ok := gr, term := if gr then m.term else p.term } by unfold foreG; rw [hs])
 clear hM hs
 go_enter Tryz.func36, Tryz.ntmps36
 go_wp2_with fail
 refine wp_region_held_drew (S := fun w' => Bk w' w.heap.size 34 (ndL p d) ∧ Bk w' ym 52 (mgC m) ∧ NdM K w' p d ∧ Below w.heap.size w w') (by kernel_rfl) (⟨HN.later ((Below.refl _ _).drew), HG.later ((Below.refl _ _).drew), HM.later ((Below.refl _ _).drew), HB.drew⟩) (fun HS => ?_)
 refine tkh (i := 0) (v := (.agg (ndL p d).toArray)) rfl ⟨by rfl, fun _ hSw => eLb _ rfl rfl nodeT hSw.1 rfl⟩ HS ?_
 try simp only [ly, Act.put]
 refine tkp (i := 2) rfl HS ?_
 refine tkh (i := 3) (v := (.int .u64 m.term)) rfl ⟨by rfl, fun _ hSw => exec_load_c _ rfl rfl ocU hSw.2.1 rfl⟩ HS ?_
 try simp only [ly, Act.put]
 refine tkp (i := 4) rfl HS ?_
 refine tkh (i := 5) (v := (.int .u64 m.fr)) rfl ⟨by rfl, fun _ hSw => exec_load_c _ rfl rfl ocU hSw.2.1 rfl⟩ HS ?_
 try simp only [ly, Act.put]
 refine tkp (i := 6) rfl HS ?_
 refine tkh (i := 7) (v := (.int .u64 m.lt)) rfl ⟨by rfl, fun _ hSw => exec_load_c _ rfl rfl ocU hSw.2.1 rfl⟩ HS ?_
 try simp only [ly, Act.put]
 refine tkp (i := 8) rfl HS ?_
 refine tkh (i := 9) (v := (.int .u64 m.i)) rfl ⟨by rfl, fun _ hSw => exec_load_c _ rfl rfl ocU hSw.2.1 rfl⟩ HS ?_
 try simp only [ly, Act.put]
 refine tkp (i := 10) rfl HS ?_
 try simp only [ly, Act.put]
 refine wpAnyH_ready (rs := [1, 15]) (by kernel_rfl) (by simp) ?_
 refine AllReadyH.cons rfl (fun KK hK => ?_) (AllReadyH.cons rfl (fun KK hK => ?_) AllReadyH.nil)
 · go_simp
   refine (HS0.out _ HS.2.2.2).mono ?_
   rintro e w2 ⟨rfl, hb⟩
   go_wp2_with fail
   (try replace HX := HX.later hb)
   refine hK.out _ _ ⟨HS.1.later hb, HS.2.1.later hb, HS.2.2.1.later hb, HS.2.2.2.trans (hb.mono HS.2.2.2.size)⟩ (fun HS => ?_)
   clear hK
   try simp only [ly, Act.put]
   refine wpAnyH_ready (rs := [11, 15]) (by kernel_rfl) (by simp) ?_
   refine AllReadyH.cons rfl (fun KK hK => ?_) (AllReadyH.cons rfl (fun KK hK => ?_) AllReadyH.nil)
   · go_simp
     refine (HA.out _).mono ?_
     rintro e w2 ⟨rfl, hb⟩
     go_wp2_with fail
     (try replace HX := HX.later hb)
     refine hK.out _ _ ⟨HS.1.later hb, HS.2.1.later hb, HS.2.2.1.later hb, HS.2.2.2.trans (hb.mono HS.2.2.2.size)⟩ (fun HS => ?_)
     clear hK
     try simp only [ly, Act.put]
     refine tkp (i := 12) rfl HS ?_
     try simp only [ly, Act.put]
     refine tkp (i := 13) rfl HS ?_
     try simp only [ly, Act.put]
     refine tkp (i := 14) rfl HS ?_
     try simp only [ly, Act.put]
     refine onh (r := 15) (by kernel_rfl) rfl (fun KK hK => ?_)
     obtain ⟨wa, xa, hwa, hxa, BA, HX, ZA⟩ := bk_at HS.2.2.2 #[.int .u64 0, .int .u64 0, .int .u64 0, .int .u64 0, .bool false] 115
     have hxy := hI_ (show w.heap.size < xa ∧ ym < xa from ⟨hxa ▸ HS.1.lt, hxa ▸ HS.2.1.lt⟩)
     go_simp
     clear hwa hxa
     refine hK.out _ _ ⟨HS.1.later BA, HS.2.1.later BA, HS.2.2.1.later BA, HS.2.2.2.trans (BA.mono HS.2.2.2.size)⟩ (fun HS => ?_)
     clear hK
     try simp only [ly, Act.put]
     refine onh (r := 16) (by kernel_rfl) rfl (fun KK hK => ?_)
     rw [if_pos (by rfl)]
     refine wSb _ _ rfl rfl (M := [.int .u64 s1.t, .int .u64 s1.v, .int .u64 s1.lt, .int .u64 s1.li, .bool s1.h]) rfl seatT HX rfl rfl rfl ?_
     intro w' hk hg
     have HS9 := And.intro (HS.1.grown hg (by have := hxy.out; omega)) (And.intro (HS.2.1.grown hg (by have := hxy.out; omega)) (And.intro (HS.2.2.1.grown hg (by have := hxy.out; omega) HX.bx.ty boxSeat) (bGr HS.2.2.2 hg HS.2.2.2.size (by have := hxy.out; omega))))
     replace HX := hk
     clear hk hg
     refine hK.out _ _ HS9 (fun HS => ?_)
     clear HS9
     clear hK
     try simp only [ly, Act.put]
     refine tkp (i := 17) rfl HS ?_
     try simp only [ly, Act.put]
     refine wpAnyH_done (by kernel_rfl) ?_ _
     replace HN := HS.1
     replace HG := HS.2.1
     replace HM := HS.2.2.1
     replace HB := HS.2.2.2
     clear HS
     clear HX HM
     go_wp2_with (first
      | (refine lBk rfl _ rfl rfl nodeT HN rfl ?_)
      | (refine lCc rfl _ rfl rfl (ocA rfl) (by assumption) rfl ?_))
     refine (pMessage_any p d 2 m.fr _).mono ?_
     rintro e w1 ⟨rfl, hb⟩
     replace HB := HB.trans (hb.mono HB.size)
     replace HG := HG.later hb
     replace HN := HN.later hb
     clear hb
     obtain ⟨x0, hx0⟩ : ∃ x, msgG p 2 m.fr = x := ⟨_, rfl⟩
     have HX0 := hI_ hx0
     rw [hx0]
     clear hx0
     obtain ⟨w2, yx, hw2, hyx', B2, HX, Z2⟩ := bk_new w1 (mgA x0) 52
     have hyx := hI_ (show w.heap.size < yx ∧ ym < yx by have := HN.lt; have := HG.lt; omega)
     replace HB := HB.trans ((hyx' ▸ B2 : Below w1.heap.size w1 w2).mono HB.size)
     replace HG := HG.later (hyx' ▸ B2)
     unfold mgA at hw2
     clear B2 HN
     cases gr
     case false =>
      go_wp2_with (first
       | (refine sCc (v := .bool false) rfl _ _ rfl rfl rfl (by first | exact ocU | exact ocI | exact ocB) HX rfl rfl rfl ?_; intro w' hk hg; replace HB := bGr HB hg HB.size (by have := hyx.out; omega); replace HG := HG.grown hg (by have := hyx.out; omega); replace HX := hk; clear hk hg)
       | (refine sCc (v := .int .u64 m.term) rfl _ _ rfl rfl rfl (by first | exact ocU | exact ocI | exact ocB) HX rfl rfl rfl ?_; intro w' hk hg; replace HB := bGr HB hg HB.size (by have := hyx.out; omega); replace HG := HG.grown hg (by have := hyx.out; omega); replace HX := hk; clear hk hg)
       | (refine lCc rfl _ rfl rfl (ocA rfl) (by assumption) rfl ?_)
       | (refine lBk rfl _ rfl rfl messT HX rfl ?_))
      have hc := cqG_one w' { x0 with ok := false } (fun x hx => by simp only [List.mem_singleton] at hx; subst hx; exact .inl (by show x0.es = []; rw [← HX0.out]; rfl))
      go_ret
      exact ⟨_, [{ x0 with ok := false }], rfl, hc.mono HB.size, by rw [HF.out, ← HX0.out]; rfl, HB.alloc HB.size _⟩
     case true =>
      go_wp2_with (first
       | (refine sCc (v := .bool true) rfl _ _ rfl rfl rfl (by first | exact ocU | exact ocI | exact ocB) HX rfl rfl rfl ?_; intro w' hk hg; replace HB := bGr HB hg HB.size (by have := hyx.out; omega); replace HG := HG.grown hg (by have := hyx.out; omega); replace HX := hk; clear hk hg)
       | (refine sCc (v := .int .u64 m.term) rfl _ _ rfl rfl rfl (by first | exact ocU | exact ocI | exact ocB) HX rfl rfl rfl ?_; intro w' hk hg; replace HB := bGr HB hg HB.size (by have := hyx.out; omega); replace HG := HG.grown hg (by have := hyx.out; omega); replace HX := hk; clear hk hg)
       | (refine lCc rfl _ rfl rfl (ocA rfl) (by assumption) rfl ?_)
       | (refine lBk rfl _ rfl rfl messT HX rfl ?_))
      have hc := cqG_one w' { x0 with ok := true, term := m.term } (fun x hx => by simp only [List.mem_singleton] at hx; subst hx; exact .inl (by show x0.es = []; rw [← HX0.out]; rfl))
      go_ret
      exact ⟨_, [{ x0 with ok := true, term := m.term }], rfl, hc.mono HB.size, by rw [HF.out, ← HX0.out]; rfl, HB.alloc HB.size _⟩
   · obtain ⟨wa, xa, hwa, hxa, BA, HX, ZA⟩ := bk_at HS.2.2.2 #[.int .u64 0, .int .u64 0, .int .u64 0, .int .u64 0, .bool false] 115
     have hxy := hI_ (show w.heap.size < xa ∧ ym < xa from ⟨hxa ▸ HS.1.lt, hxa ▸ HS.2.1.lt⟩)
     go_simp
     clear hwa hxa
     refine hK.out _ _ ⟨HS.1.later BA, HS.2.1.later BA, HS.2.2.1.later BA, HS.2.2.2.trans (BA.mono HS.2.2.2.size)⟩ (fun HS => ?_)
     clear hK
     try simp only [ly, Act.put]
     refine onh (r := 11) (by kernel_rfl) rfl (fun KK hK => ?_)
     go_simp
     refine (HA.out _).mono ?_
     rintro e w2 ⟨rfl, hb⟩
     go_wp2_with fail
     (try replace HX := HX.later hb)
     refine hK.out _ _ ⟨HS.1.later hb, HS.2.1.later hb, HS.2.2.1.later hb, HS.2.2.2.trans (hb.mono HS.2.2.2.size)⟩ (fun HS => ?_)
     clear hK
     try simp only [ly, Act.put]
     refine tkp (i := 12) rfl HS ?_
     try simp only [ly, Act.put]
     refine tkp (i := 13) rfl HS ?_
     try simp only [ly, Act.put]
     refine tkp (i := 14) rfl HS ?_
     try simp only [ly, Act.put]
     refine onh (r := 16) (by kernel_rfl) rfl (fun KK hK => ?_)
     rw [if_pos (by rfl)]
     refine wSb _ _ rfl rfl (M := [.int .u64 s1.t, .int .u64 s1.v, .int .u64 s1.lt, .int .u64 s1.li, .bool s1.h]) rfl seatT HX rfl rfl rfl ?_
     intro w' hk hg
     have HS9 := And.intro (HS.1.grown hg (by have := hxy.out; omega)) (And.intro (HS.2.1.grown hg (by have := hxy.out; omega)) (And.intro (HS.2.2.1.grown hg (by have := hxy.out; omega) HX.bx.ty boxSeat) (bGr HS.2.2.2 hg HS.2.2.2.size (by have := hxy.out; omega))))
     replace HX := hk
     clear hk hg
     refine hK.out _ _ HS9 (fun HS => ?_)
     clear HS9
     clear hK
     try simp only [ly, Act.put]
     refine tkp (i := 17) rfl HS ?_
     try simp only [ly, Act.put]
     refine wpAnyH_done (by kernel_rfl) ?_ _
     replace HN := HS.1
     replace HG := HS.2.1
     replace HM := HS.2.2.1
     replace HB := HS.2.2.2
     clear HS
     clear HX HM
     go_wp2_with (first
      | (refine lBk rfl _ rfl rfl nodeT HN rfl ?_)
      | (refine lCc rfl _ rfl rfl (ocA rfl) (by assumption) rfl ?_))
     refine (pMessage_any p d 2 m.fr _).mono ?_
     rintro e w1 ⟨rfl, hb⟩
     replace HB := HB.trans (hb.mono HB.size)
     replace HG := HG.later hb
     replace HN := HN.later hb
     clear hb
     obtain ⟨x0, hx0⟩ : ∃ x, msgG p 2 m.fr = x := ⟨_, rfl⟩
     have HX0 := hI_ hx0
     rw [hx0]
     clear hx0
     obtain ⟨w2, yx, hw2, hyx', B2, HX, Z2⟩ := bk_new w1 (mgA x0) 52
     have hyx := hI_ (show w.heap.size < yx ∧ ym < yx by have := HN.lt; have := HG.lt; omega)
     replace HB := HB.trans ((hyx' ▸ B2 : Below w1.heap.size w1 w2).mono HB.size)
     replace HG := HG.later (hyx' ▸ B2)
     unfold mgA at hw2
     clear B2 HN
     cases gr
     case false =>
      go_wp2_with (first
       | (refine sCc (v := .bool false) rfl _ _ rfl rfl rfl (by first | exact ocU | exact ocI | exact ocB) HX rfl rfl rfl ?_; intro w' hk hg; replace HB := bGr HB hg HB.size (by have := hyx.out; omega); replace HG := HG.grown hg (by have := hyx.out; omega); replace HX := hk; clear hk hg)
       | (refine sCc (v := .int .u64 m.term) rfl _ _ rfl rfl rfl (by first | exact ocU | exact ocI | exact ocB) HX rfl rfl rfl ?_; intro w' hk hg; replace HB := bGr HB hg HB.size (by have := hyx.out; omega); replace HG := HG.grown hg (by have := hyx.out; omega); replace HX := hk; clear hk hg)
       | (refine lCc rfl _ rfl rfl (ocA rfl) (by assumption) rfl ?_)
       | (refine lBk rfl _ rfl rfl messT HX rfl ?_))
      have hc := cqG_one w' { x0 with ok := false } (fun x hx => by simp only [List.mem_singleton] at hx; subst hx; exact .inl (by show x0.es = []; rw [← HX0.out]; rfl))
      go_ret
      exact ⟨_, [{ x0 with ok := false }], rfl, hc.mono HB.size, by rw [HF.out, ← HX0.out]; rfl, HB.alloc HB.size _⟩
     case true =>
      go_wp2_with (first
       | (refine sCc (v := .bool true) rfl _ _ rfl rfl rfl (by first | exact ocU | exact ocI | exact ocB) HX rfl rfl rfl ?_; intro w' hk hg; replace HB := bGr HB hg HB.size (by have := hyx.out; omega); replace HG := HG.grown hg (by have := hyx.out; omega); replace HX := hk; clear hk hg)
       | (refine sCc (v := .int .u64 m.term) rfl _ _ rfl rfl rfl (by first | exact ocU | exact ocI | exact ocB) HX rfl rfl rfl ?_; intro w' hk hg; replace HB := bGr HB hg HB.size (by have := hyx.out; omega); replace HG := HG.grown hg (by have := hyx.out; omega); replace HX := hk; clear hk hg)
       | (refine lCc rfl _ rfl rfl (ocA rfl) (by assumption) rfl ?_)
       | (refine lBk rfl _ rfl rfl messT HX rfl ?_))
      have hc := cqG_one w' { x0 with ok := true, term := m.term } (fun x hx => by simp only [List.mem_singleton] at hx; subst hx; exact .inl (by show x0.es = []; rw [← HX0.out]; rfl))
      go_ret
      exact ⟨_, [{ x0 with ok := true, term := m.term }], rfl, hc.mono HB.size, by rw [HF.out, ← HX0.out]; rfl, HB.alloc HB.size _⟩
 · obtain ⟨wa, xa, hwa, hxa, BA, HX, ZA⟩ := bk_at HS.2.2.2 #[.int .u64 0, .int .u64 0, .int .u64 0, .int .u64 0, .bool false] 115
   have hxy := hI_ (show w.heap.size < xa ∧ ym < xa from ⟨hxa ▸ HS.1.lt, hxa ▸ HS.2.1.lt⟩)
   go_simp
   clear hwa hxa
   refine hK.out _ _ ⟨HS.1.later BA, HS.2.1.later BA, HS.2.2.1.later BA, HS.2.2.2.trans (BA.mono HS.2.2.2.size)⟩ (fun HS => ?_)
   clear hK
   try simp only [ly, Act.put]
   refine onh (r := 1) (by kernel_rfl) rfl (fun KK hK => ?_)
   go_simp
   refine (HS0.out _ HS.2.2.2).mono ?_
   rintro e w2 ⟨rfl, hb⟩
   go_wp2_with fail
   (try replace HX := HX.later hb)
   refine hK.out _ _ ⟨HS.1.later hb, HS.2.1.later hb, HS.2.2.1.later hb, HS.2.2.2.trans (hb.mono HS.2.2.2.size)⟩ (fun HS => ?_)
   clear hK
   try simp only [ly, Act.put]
   refine onh (r := 11) (by kernel_rfl) rfl (fun KK hK => ?_)
   go_simp
   refine (HA.out _).mono ?_
   rintro e w2 ⟨rfl, hb⟩
   go_wp2_with fail
   (try replace HX := HX.later hb)
   refine hK.out _ _ ⟨HS.1.later hb, HS.2.1.later hb, HS.2.2.1.later hb, HS.2.2.2.trans (hb.mono HS.2.2.2.size)⟩ (fun HS => ?_)
   clear hK
   try simp only [ly, Act.put]
   refine tkp (i := 12) rfl HS ?_
   try simp only [ly, Act.put]
   refine tkp (i := 13) rfl HS ?_
   try simp only [ly, Act.put]
   refine tkp (i := 14) rfl HS ?_
   try simp only [ly, Act.put]
   refine onh (r := 16) (by kernel_rfl) rfl (fun KK hK => ?_)
   rw [if_pos (by rfl)]
   refine wSb _ _ rfl rfl (M := [.int .u64 s1.t, .int .u64 s1.v, .int .u64 s1.lt, .int .u64 s1.li, .bool s1.h]) rfl seatT HX rfl rfl rfl ?_
   intro w' hk hg
   have HS9 := And.intro (HS.1.grown hg (by have := hxy.out; omega)) (And.intro (HS.2.1.grown hg (by have := hxy.out; omega)) (And.intro (HS.2.2.1.grown hg (by have := hxy.out; omega) HX.bx.ty boxSeat) (bGr HS.2.2.2 hg HS.2.2.2.size (by have := hxy.out; omega))))
   replace HX := hk
   clear hk hg
   refine hK.out _ _ HS9 (fun HS => ?_)
   clear HS9
   clear hK
   try simp only [ly, Act.put]
   refine tkp (i := 17) rfl HS ?_
   try simp only [ly, Act.put]
   refine wpAnyH_done (by kernel_rfl) ?_ _
   replace HN := HS.1
   replace HG := HS.2.1
   replace HM := HS.2.2.1
   replace HB := HS.2.2.2
   clear HS
   clear HX HM
   go_wp2_with (first
    | (refine lBk rfl _ rfl rfl nodeT HN rfl ?_)
    | (refine lCc rfl _ rfl rfl (ocA rfl) (by assumption) rfl ?_))
   refine (pMessage_any p d 2 m.fr _).mono ?_
   rintro e w1 ⟨rfl, hb⟩
   replace HB := HB.trans (hb.mono HB.size)
   replace HG := HG.later hb
   replace HN := HN.later hb
   clear hb
   obtain ⟨x0, hx0⟩ : ∃ x, msgG p 2 m.fr = x := ⟨_, rfl⟩
   have HX0 := hI_ hx0
   rw [hx0]
   clear hx0
   obtain ⟨w2, yx, hw2, hyx', B2, HX, Z2⟩ := bk_new w1 (mgA x0) 52
   have hyx := hI_ (show w.heap.size < yx ∧ ym < yx by have := HN.lt; have := HG.lt; omega)
   replace HB := HB.trans ((hyx' ▸ B2 : Below w1.heap.size w1 w2).mono HB.size)
   replace HG := HG.later (hyx' ▸ B2)
   unfold mgA at hw2
   clear B2 HN
   cases gr
   case false =>
    go_wp2_with (first
     | (refine sCc (v := .bool false) rfl _ _ rfl rfl rfl (by first | exact ocU | exact ocI | exact ocB) HX rfl rfl rfl ?_; intro w' hk hg; replace HB := bGr HB hg HB.size (by have := hyx.out; omega); replace HG := HG.grown hg (by have := hyx.out; omega); replace HX := hk; clear hk hg)
     | (refine sCc (v := .int .u64 m.term) rfl _ _ rfl rfl rfl (by first | exact ocU | exact ocI | exact ocB) HX rfl rfl rfl ?_; intro w' hk hg; replace HB := bGr HB hg HB.size (by have := hyx.out; omega); replace HG := HG.grown hg (by have := hyx.out; omega); replace HX := hk; clear hk hg)
     | (refine lCc rfl _ rfl rfl (ocA rfl) (by assumption) rfl ?_)
     | (refine lBk rfl _ rfl rfl messT HX rfl ?_))
    have hc := cqG_one w' { x0 with ok := false } (fun x hx => by simp only [List.mem_singleton] at hx; subst hx; exact .inl (by show x0.es = []; rw [← HX0.out]; rfl))
    go_ret
    exact ⟨_, [{ x0 with ok := false }], rfl, hc.mono HB.size, by rw [HF.out, ← HX0.out]; rfl, HB.alloc HB.size _⟩
   case true =>
    go_wp2_with (first
     | (refine sCc (v := .bool true) rfl _ _ rfl rfl rfl (by first | exact ocU | exact ocI | exact ocB) HX rfl rfl rfl ?_; intro w' hk hg; replace HB := bGr HB hg HB.size (by have := hyx.out; omega); replace HG := HG.grown hg (by have := hyx.out; omega); replace HX := hk; clear hk hg)
     | (refine sCc (v := .int .u64 m.term) rfl _ _ rfl rfl rfl (by first | exact ocU | exact ocI | exact ocB) HX rfl rfl rfl ?_; intro w' hk hg; replace HB := bGr HB hg HB.size (by have := hyx.out; omega); replace HG := HG.grown hg (by have := hyx.out; omega); replace HX := hk; clear hk hg)
     | (refine lCc rfl _ rfl rfl (ocA rfl) (by assumption) rfl ?_)
     | (refine lBk rfl _ rfl rfl messT HX rfl ?_))
    have hc := cqG_one w' { x0 with ok := true, term := m.term } (fun x hx => by simp only [List.mem_singleton] at hx; subst hx; exact .inl (by show x0.es = []; rw [← HX0.out]; rfl))
    go_ret
    exact ⟨_, [{ x0 with ok := true, term := m.term }], rfl, hc.mono HB.size, by rw [HF.out, ← HX0.out]; rfl, HB.alloc HB.size _⟩

theorem row_at {B : Nat} {v w0 : World} (_h : Below B v w0) (hB : B ≤ w0.heap.size) (x : Mg) (hx : x.es = []) : ∃ z, w0.heap.size = z ∧ Below w0.heap.size w0 (w0.alloc (.cells (mgA x) 52)) ∧ CqG B (w0.alloc (.cells (mgA x) 52)) (.slice (some ⟨z, 0, none⟩) 1 1) [x] :=
 ⟨_, rfl, (Below.refl _ _).alloc (Nat.le_refl _) _, (cqG_one w0 x (fun y hy => by simp only [List.mem_singleton] at hy; subst hy; exact .inl hx)).mono hB⟩
end Go.Proofs.YtdcpiaoadbbdoaaGreat
