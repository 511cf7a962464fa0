/- A follower's answer is heard. -/
import Derived.Test.YtdcpiaoadbbdoaaGreatBulk
import Derived.Test.YtdcpiaoadbbdoaaGreatQjn
set_option maxRecDepth 100000
set_option maxHeartbeats 16000000
namespace Go.Proofs.YtdcpiaoadbbdoaaGreat
open Go.RowKit

theorem us_at {B : Nat} {v w0 : World} (_h : Below B v w0) (q : Nat) : ∃ z, w0.heap.size = z ∧ Below w0.heap.size w0 (w0.alloc (.cells #[.int .u64 q] 22)) ∧ Us (w0.alloc (.cells #[.int .u64 q] 22)) (some ⟨z, 0, none⟩) [q] :=
 ⟨_, rfl, (Below.refl _ _).alloc (Nat.le_refl _) _, fun j x hx => by
  have hj := (List.getElem?_eq_some_iff.1 hx).1
  have h0 : j = 0 := by simpa using hj
  subst h0
  simp at hx
  subst hx
  exact ⟨_, 0, rfl, by simp, by simp [go_sem]⟩⟩
theorem pHearReply_any (p : Pn) (d : Ad) (hBd : Bd p) (m : Mg) (hm : Bm m) (hnx : p.next.length * 16 ≤ 140737488352900) (hmt : p.mat.length * 16 ≤ 140737488352900) (K : Nat) (w : World) (hK : K ≤ w.heap.size) (hM : NdM K w p d) :
 Calls Tryz.prog 79 #[ndV p d, mgV m] w (NmP K w (replyP p m)) := by
 obtain ⟨W, hW, B0, N0, Z0⟩ := nk_new w p d
 obtain ⟨Wm, ym, hWm, hym, Bm, HG, Zm⟩ := bk_new W (mgA m) 52
 obtain ⟨W1, y, hW1, hy, B1, HR, Z1⟩ := bk_new Wm znA 34
 have Bm' : Below W.heap.size W Wm := hym ▸ Bm
 have B1' : Below Wm.heap.size Wm W1 := hy ▸ B1
 have HB1 := B0.trans (Bm'.mono B0.size)
 have HN := (N0.later Bm').later B1'
 replace HG := HG.later B1'
 have HB := HB1.trans (B1'.mono HB1.size)
 have hyn := hI_ (show w.heap.size < y ∧ w.heap.size < ym ∧ ym < y by have := Z0.out; have := Zm.out; omega)
 clear B0 N0 B1 Bm Bm' B1' HB1
 unfold ndA at hW
 unfold mgA at hWm
 unfold znA at hW1
 have HM := hM.later HB
 have hmi64 := hm.i
 obtain ⟨n1, hn1⟩ : ∃ n1, mrkN m.fr p.next = n1 := ⟨_, rfl⟩
 obtain ⟨m1, hm1⟩ : ∃ m1, mrkN m.fr p.mat = m1 := ⟨_, rfl⟩
 have HNX := hI_ hn1
 have HMT := hI_ hm1
 have HN64 := hI_ (show n1 < 18446744073709551616 by rw [← hn1]; exact mark_lt hBd.nexts)
 have HM64 := hI_ (show m1 < 18446744073709551616 by rw [← hm1]; exact mark_lt hBd.marks)
 have HOL := hI_ (show p.oth.length ≤ 140737488351232 by have := oth_len p.conf p.id (conf_may hBd.may); have : p.oth.length ≤ 10 := this; omega)
 have HNC := hI_ (show ∀ w1, Below w.heap.size w w1 → Calls Tryz.prog 104 #[.slice d.n.a p.next.length d.n.c, .int .u64 m.fr] w1 fun e w' => e = .returned (.tuple #[.int .u64 n1, .bool (markN m.fr p.next).2]) ∧ Below w1.heap.size w1 w' from fun w1 hb => by
  rw [← hn1]; exact pMark_any m.fr _ _ _ p.next rfl (by have := hBd.next; omega) w1 (hM.later hb).n)
 have HMC := hI_ (show ∀ w1, Below w.heap.size w w1 → Calls Tryz.prog 104 #[.slice d.m.a p.mat.length d.m.c, .int .u64 m.fr] w1 fun e w' => e = .returned (.tuple #[.int .u64 m1, .bool (markN m.fr p.mat).2]) ∧ Below w1.heap.size w1 w' from fun w1 hb => by
  rw [← hm1]; exact pMark_any m.fr _ _ _ p.mat rfl (by have := hBd.mat; omega) w1 (hM.later hb).m)
 clear hM hn1 hm1
 go_enter Tryz.func79, Tryz.ntmps79
 go_wp2_with fail
 by_cases hro : p.role = 3
 case neg =>
  have gro : (p.role == 3) = false := by simp; omega
  have gro' : (p.role != 3) = true := by simp; omega
  have HJP := hI_ (show replyP p m = (p, []) by unfold replyP; rw [if_pos (.inl hro)])
  replace HR := HR.later ((Below.refl _ _).drew)
  refine wp_region_held_drew (S := fun w' => Bk w' w.heap.size 34 (ndL p d) ∧ Bk w' ym 52 (mgC m) ∧ NdM K w' p d ∧ Below w.heap.size w w') (by kernel_rfl) (⟨HN.later ((Below.refl _ _).drew), HG.later ((Below.refl _ _).drew), HM.later ((Below.refl _ _).drew), HB.drew⟩) (fun HS => ?_)
  refine tkp (i := 0) rfl HS ?_
  refine tkh (i := 1) (v := (.int .i64 p.role)) rfl ⟨by rfl, fun _ hSw => exec_load_c _ rfl rfl ocI hSw.1 rfl⟩ HS ?_
  refine tkh (i := 2) (v := (.bool true)) rfl ⟨by rfl, ?h2⟩ HS ?_
  case h2 => (intro _ hSw; go_simp; (try with_reducible rfl))
  try simp only [ly, Act.put]
  refine tkp (i := 3) rfl HS ?_
  try simp only [ly, Act.put]
  refine wpAnyH_take (i := 4) (v := undef) rfl (by kernel_rfl) (by kernel_rfl) (by kernel_rfl) (fun _ _ _ h => h) (Or.inr ⟨by rfl, rfl⟩) HS ?_
  try simp only [ly, Act.put]
  refine wpAnyH_take (i := 5) (v := undef) rfl (by kernel_rfl) (by kernel_rfl) (by kernel_rfl) (fun _ _ _ h => h) (Or.inr ⟨by rfl, rfl⟩) HS ?_
  try simp only [ly, Act.put]
  refine wpAnyH_take (i := 6) (v := undef) rfl (by kernel_rfl) (by kernel_rfl) (by kernel_rfl) (fun _ _ _ h => h) (Or.inr ⟨by rfl, rfl⟩) HS ?_
  try simp only [ly, Act.put]
  refine wpAnyH_take (i := 7) (v := undef) rfl (by kernel_rfl) (by kernel_rfl) (by kernel_rfl) (fun _ _ _ h => h) (Or.inr ⟨by rfl, rfl⟩) HS ?_
  try simp only [ly, Act.put]
  refine wpAnyH_take (i := 8) (v := undef) rfl (by kernel_rfl) (by kernel_rfl) (by kernel_rfl) (fun _ _ _ h => h) (Or.inr ⟨by rfl, rfl⟩) HS ?_
  try simp only [ly, Act.put]
  refine wpAnyH_take (i := 9) (v := undef) rfl (by kernel_rfl) (by kernel_rfl) (by kernel_rfl) (fun _ _ _ h => h) (Or.inr ⟨by rfl, rfl⟩) HS ?_
  try simp only [ly, Act.put]
  refine tkp (i := 10) rfl HS ?_
  try simp only [ly, Act.put]
  refine wpAnyH_done (by kernel_rfl) ?_ _
  replace HN := HS.1
  replace HG := HS.2.1
  replace HM := HS.2.2.1
  replace HB := HS.2.2.2
  clear HS
  go_wp2_with (first
   | (refine lBk rfl _ rfl rfl nodeT HN rfl ?_)
   | (refine sBk rfl _ _ rfl rfl rfl nodeT HR rfl rfl rfl ?_; intro w' hk hg; replace HN := HN.grown hg (by have := hyn.out; omega); replace HG := HG.grown hg (by have := hyn.out; omega); replace HM := HM.grown hg (by have := hyn.out; omega) HR.bx.ty bNd; replace HB := bGr HB hg HB.size (by have := hyn.out; omega); replace HR := hk; clear hk hg))
  refine bodyPost_ret (v := .tuple #[ndV p d, .slice none 0 0]) (by rw [rBt Tryz.results79 _ rfl nodeT HR rfl]; rfl) rfl ?_
  rw [HJP.out]
  exact ⟨d, _, [], rfl, HM, CqG.nil _ _ none, rfl, HB⟩
 case pos =>
  have gro : (p.role == 3) = true := by simp [hro]
  have gro' : (p.role != 3) = false := by simp [hro]
  have HRO := hI_ hro
  clear hro
  replace HR := HR.later ((Below.refl _ _).drew)
  refine wp_region_held_drew (S := fun w' => Bk w' w.heap.size 34 (ndL p d) ∧ Bk w' ym 52 (mgC m) ∧ NdM K w' p d ∧ Below w.heap.size w w') (by kernel_rfl) (⟨HN.later ((Below.refl _ _).drew), HG.later ((Below.refl _ _).drew), HM.later ((Below.refl _ _).drew), HB.drew⟩) (fun HS => ?_)
  refine tkp (i := 0) rfl HS ?_
  refine tkh (i := 1) (v := (.int .i64 p.role)) rfl ⟨by rfl, fun _ hSw => exec_load_c _ rfl rfl ocI hSw.1 rfl⟩ HS ?_
  refine tkh (i := 2) (v := (.bool false)) rfl ⟨by rfl, ?h2⟩ HS ?_
  case h2 => (intro _ hSw; go_simp; (try with_reducible rfl))
  try simp only [ly, Act.put]
  refine tkp (i := 3) rfl HS ?_
  refine tkh (i := 4) (v := (.agg (ndL p d).toArray)) rfl ⟨by rfl, fun _ hSw => eLb _ rfl rfl nodeT hSw.1 rfl⟩ HS ?_
  try simp only [ly, Act.put]
  refine tkp (i := 6) rfl HS ?_
  refine tkh (i := 7) (v := (.int .u64 m.fr)) rfl ⟨by rfl, fun _ hSw => exec_load_c _ rfl rfl ocU hSw.2.1 rfl⟩ HS ?_
  try simp only [ly, Act.put]
  refine onh (r := 5) (by kernel_rfl) rfl (fun KK hK => ?_)
  go_simp
  refine (pOthers_any p d hBd K _ HS.2.2.1).mono ?_
  rintro e w2 ⟨ao, co, rfl, hUo, _, hb⟩
  have HUO := hI_ hUo
  clear hUo
  replace HR := HR.later hb
  go_wp2_with fail
  refine hK.out _ _ ⟨HS.1.later hb, HS.2.1.later hb, HS.2.2.1.later hb, HS.2.2.2.trans (hb.mono HS.2.2.2.size)⟩ (fun HS => ?_)
  clear hK
  try simp only [ly, Act.put]
  refine onh (r := 8) (by kernel_rfl) rfl (fun KK hK => ?_)
  go_simp
  refine (pContains_any m.fr _ _ _ p.oth rfl HOL.out _ HUO.out).mono ?_
  rintro e w3 ⟨rfl, rfl⟩
  go_wp2_with fail
  refine hK.out _ _ HS (fun HS => ?_)
  clear hK
  try simp only [ly, Act.put]
  refine tkp (i := 9) rfl HS ?_
  try simp only [ly, Act.put]
  refine tkp (i := 10) rfl HS ?_
  try simp only [ly, Act.put]
  refine wpAnyH_done (by kernel_rfl) ?_ _
  replace HN := HS.1
  replace HG := HS.2.1
  replace HM := HS.2.2.1
  replace HB := HS.2.2.2
  clear HS
  by_cases hho : hasN m.fr p.oth = true
  case neg =>
   have hho : hasN m.fr p.oth = false := by simpa using hho
   have HJP := hI_ (show replyP p m = (p, []) by unfold replyP; rw [if_pos (.inr hho)])
   rw [hho]
   clear hho
   go_wp2_with (first
    | (refine lBk rfl _ rfl rfl nodeT HN rfl ?_)
    | (refine sBk rfl _ _ rfl rfl rfl nodeT HR rfl rfl rfl ?_; intro w' hk hg; replace HN := HN.grown hg (by have := hyn.out; omega); replace HG := HG.grown hg (by have := hyn.out; omega); replace HM := HM.grown hg (by have := hyn.out; omega) HR.bx.ty bNd; replace HB := bGr HB hg HB.size (by have := hyn.out; omega); replace HR := hk; clear hk hg))
   refine bodyPost_ret (v := .tuple #[ndV p d, .slice none 0 0]) (by rw [rBt Tryz.results79 _ rfl nodeT HR rfl]; rfl) rfl ?_
   rw [HJP.out]
   exact ⟨d, _, [], rfl, HM, CqG.nil _ _ none, rfl, HB⟩
  case pos =>
   have HHO := hI_ hho
   rw [hho]
   clear hho
   go_wp2_with (first
    | (refine lCc rfl _ rfl rfl (ocA rfl) (by assumption) rfl ?_))
   refine (HNC.out _ HB).mono ?_
   rintro e w2 ⟨rfl, hb⟩
   replace HB := HB.trans (hb.mono HB.size)
   replace HN := HN.later hb
   replace HG := HG.later hb
   replace HR := HR.later hb
   replace HM := HM.later hb
   clear hb
   generalize (markN m.fr p.next).2 = q1
   go_wp2_with (first
    | (refine lCc rfl _ rfl rfl (ocA rfl) (by assumption) rfl ?_))
   refine (HMC.out _ HB).mono ?_
   rintro e w3 ⟨rfl, hb⟩
   replace HB := HB.trans (hb.mono HB.size)
   replace HN := HN.later hb
   replace HG := HG.later hb
   replace HR := HR.later hb
   replace HM := HM.later hb
   clear hb
   generalize (markN m.fr p.mat).2 = q2
   obtain ⟨ok, hok⟩ : ∃ ok, m.ok = ok := ⟨_, rfl⟩
   have e7 := HG.bx.c 7 _ rfl
   rw [hok] at e7
   cases ok
   case false =>
    have HOK := hI_ hok
    obtain ⟨mx, hmx⟩ : ∃ mx : Nat, max n1 1 = mx := ⟨_, rfl⟩
    obtain ⟨my, hmy⟩ : ∃ my : Nat, mx - 1 = my := ⟨_, rfl⟩
    obtain ⟨i1, hi1⟩ : ∃ i1 : Nat, (m.i + 1) % 18446744073709551616 = i1 := ⟨_, rfl⟩
    obtain ⟨bk, hbk⟩ : ∃ bk : Nat, min my i1 = bk := ⟨_, rfl⟩
    obtain ⟨m1', hm1⟩ : ∃ m1' : Nat, (m1 + 1) % 18446744073709551616 = m1' := ⟨_, rfl⟩
    obtain ⟨b1, hb1⟩ : ∃ b1 : Nat, max bk 1 = b1 := ⟨_, rfl⟩
    obtain ⟨b2, hb2⟩ : ∃ b2 : Nat, max b1 m1' = b2 := ⟨_, rfl⟩
    have HMX := hI_ (show (if (1 : Int) > (n1 : Int) then (1 : Int) else (n1 : Int)) = (mx : Int) by rw [← hmx]; exact max_nat n1 1)
    have wmy : IntKind.u64.wrap ((mx : Int) - 1) = (my : Int) := by have := HN64.out; rw [IntKind.wrap_u64]; omega
    have wi1 : IntKind.u64.wrap ((m.i : Int) + 1) = (i1 : Int) := by rw [IntKind.wrap_u64]; omega
    have wm1 : IntKind.u64.wrap ((m1 : Int) + 1) = (m1' : Int) := by rw [IntKind.wrap_u64]; omega
    have HMI := hI_ (show (if (i1 : Int) < (my : Int) then (i1 : Int) else (my : Int)) = (bk : Int) by rw [← hbk]; exact min_nat my i1)
    have HB1 := hI_ (show (if (1 : Int) > (bk : Int) then (1 : Int) else (bk : Int)) = (b1 : Int) by rw [← hb1]; exact max_nat bk 1)
    have HB2 := hI_ (show (if (m1' : Int) > (b1 : Int) then (m1' : Int) else (b1 : Int)) = (b2 : Int) by rw [← hb2]; exact max_nat b1 m1')
    have hb264 : b2 < 18446744073709551616 := by have := HN64.out; omega
    have HBN := hI_ (show backN p m = b2 by unfold backN; rw [HNX.out, HMT.out, hmx, hmy, hi1, hbk, hm1, hb1, hb2])
    clear hmx hmy hi1 hbk hm1 hb1 hb2
    go_wp2_with (first
     | (refine wpList_val rfl (v := .int .u64 mx) (exec_max2 _ _ _ rfl rfl rfl HMX.out) ?_)
     | (refine wpList_val rfl (v := .int .u64 bk) (exec_min2 _ _ _ rfl rfl rfl HMI.out) ?_)
     | (refine wpList_val rfl (v := .int .u64 b2) (exec_max3 _ _ _ _ rfl rfl rfl rfl HB1.out HB2.out) ?_)
     | (refine lCc rfl _ rfl rfl (ocA rfl) (by assumption) rfl ?_))
    clear hok
    refine (pSet_any m.fr b2 _ _ _ p.next rfl (by have := hnx; omega) _ HM.n).mono ?_
    rintro e w4 ⟨v4, rfl, hcv, hb⟩
    obtain ⟨a4, c4, rfl, hV4, hT4⟩ := hcv.ty K
    replace HB := HB.trans (hb.mono HB.size)
    replace HN := HN.later hb
    replace HG := HG.later hb
    replace HR := HR.later hb
    replace HM := HM.nxt hb (c := c4) hV4 hT4
    obtain ⟨P, hP⟩ : ∃ P : Pn, P = { p with next := setN m.fr b2 p.next } := ⟨_, rfl⟩
    obtain ⟨D, hD⟩ : ∃ D : Ad, D = { d with n := ⟨a4, c4⟩ } := ⟨_, rfl⟩
    have hbd : Bd P := by rw [hP]; exact bd_nxt hBd (by have := setN_len m.fr b2 p.next; omega) (setN_lt hb264 hBd.nexts)
    have HPE := hI_ hP
    have HDE := hI_ hD
    have HJP := hI_ (show replyP p m = (P, [portG P m.fr]) by
     unfold replyP; rw [if_neg (by rw [HRO.out]; rintro (h | h); exact h rfl; exact absurd h (by rw [HHO.out]; decide)), if_pos HOK.out]
     unfold backP; rw [HBN.out, hP])
    clear hb hcv hV4 hT4 hP hD
    go_wp2_with (first
     | (refine sCc (v := .slice a4 (setN m.fr b2 p.next).length c4) rfl _ _ rfl rfl rfl ocM HN rfl rfl rfl ?_; intro w' hk hg; replace HR := HR.grown hg (by have := hyn.out; omega); replace HG := HG.grown hg (by have := hyn.out; omega); replace HM := HM.grown hg hK HN.bx.ty bNd; replace HB := bGr HB hg HB.size (Nat.le_refl _); replace HN := hk; clear hk hg; (replace HN : Bk w' w.heap.size 34 (ndL P D) := by rw [HPE.out, HDE.out]; exact HN); (replace HM : NdM K w' P D := by rw [HPE.out, HDE.out]; exact HM)))
    replace HR := HR.later ((Below.refl _ _).drew)
    refine wp_region_held_drew (S := fun w' => Bk w' w.heap.size 34 (ndL P D) ∧ Bk w' ym 52 (mgC m) ∧ NdM K w' P D ∧ Below w.heap.size w w') (by kernel_rfl) (⟨HN.later ((Below.refl _ _).drew), HG.later ((Below.refl _ _).drew), HM.later ((Below.refl _ _).drew), HB.drew⟩) (fun HS => ?_)
    refine tkh (i := 0) (v := (.agg (ndL P D).toArray)) rfl ⟨by rfl, fun _ hSw => eLb _ rfl rfl nodeT hSw.1 rfl⟩ HS ?_
    refine tkh (i := 1) (v := (.agg (ndL P D).toArray)) rfl ⟨by rfl, fun _ hSw => eLb _ rfl rfl nodeT hSw.1 rfl⟩ HS ?_
    try simp only [ly, Act.put]
    refine tkp (i := 2) rfl HS ?_
    refine tkh (i := 3) (v := (.int .u64 m.fr)) rfl ⟨by rfl, fun _ hSw => exec_load_c _ rfl rfl ocU hSw.2.1 rfl⟩ HS ?_
    try simp only [ly, Act.put]
    refine onh (r := 4) (by kernel_rfl) rfl (fun KK hK => ?_)
    obtain ⟨z, hz, hb, HU1⟩ := us_at HS.2.2.2 m.fr
    go_simp
    replace HR := HR.later hb
    clear hz
    refine hK.out _ _ ⟨HS.1.later hb, HS.2.1.later hb, HS.2.2.1.later hb, HS.2.2.2.trans (hb.mono HS.2.2.2.size)⟩ (fun HS => ?_)
    clear hK
    try simp only [ly, Act.put]
    refine onh (r := 5) (by kernel_rfl) rfl (fun KK hK => ?_)
    go_simp
    refine (pSend_any P D hbd K 1 1 (some ⟨z, 0, none⟩) [m.fr] rfl (by decide) _ HS.2.2.1 HU1).mono ?_
    rintro e w5 ⟨v, O, rfl, hC, hO, hb⟩
    have HC := hC.mono HS.2.2.2.size
    have HO := hI_ hO
    clear hC hO
    replace HR := HR.later hb
    go_wp2_with fail
    refine hK.out _ _ ⟨HS.1.later hb, HS.2.1.later hb, HS.2.2.1.later hb, HS.2.2.2.trans (hb.mono HS.2.2.2.size)⟩ (fun HS => ?_)
    clear hK
    try simp only [ly, Act.put]
    refine onh (r := 6) (by kernel_rfl) rfl (fun KK hK => ?_)
    rw [if_pos (by rfl)]
    refine wSb _ _ rfl rfl (M := ndL P D) rfl nodeT HR rfl rfl rfl ?_
    intro w' hk hg
    have HS9 := And.intro (HS.1.grown hg (by have := hyn.out; omega)) (And.intro (HS.2.1.grown hg (by have := hyn.out; omega)) (And.intro (HS.2.2.1.grown hg (by have := hyn.out; omega) HR.bx.ty bNd) (bGr HS.2.2.2 hg HS.2.2.2.size (by have := hyn.out; omega))))
    have HC := HC.box hg HR.bx.ty boxNm
    replace HR := hk
    clear hk hg
    refine hK.out _ _ HS9 (fun HS => ?_)
    clear HS9
    clear hK
    try simp only [ly, Act.put]
    refine tkp (i := 7) rfl HS ?_
    try simp only [ly, Act.put]
    refine wpAnyH_done (by kernel_rfl) ?_ _
    go_wp2_with fail
    refine bodyPost_ret (v := .tuple #[ndV P D, v]) (by rw [rBt Tryz.results79 _ rfl nodeT HR rfl]; rfl) rfl ?_
    rw [HJP.out]
    exact ⟨D, v, O, rfl, HS.2.2.1, HC, HO.out, HS.2.2.2⟩
   case true =>
    have HOK := hI_ hok
    clear hok
    go_wp2_with fail
    by_cases hei : p.endI < m.i
    case pos =>
     have gei : (p.endI : Int) < (m.i : Int) := by omega
     have HJP := hI_ (show replyP p m = (p, []) by unfold replyP; rw [if_neg (by rw [HRO.out]; rintro (h | h); exact h rfl; exact absurd h (by rw [HHO.out]; decide)), if_neg (by rw [HOK.out]; simp), if_pos hei])
     replace HR := HR.later ((Below.refl _ _).drew)
     refine wp_region_held_drew (S := fun w' => Bk w' w.heap.size 34 (ndL p d) ∧ Bk w' ym 52 (mgC m) ∧ NdM K w' p d ∧ Below w.heap.size w w') (by kernel_rfl) (⟨HN.later ((Below.refl _ _).drew), HG.later ((Below.refl _ _).drew), HM.later ((Below.refl _ _).drew), HB.drew⟩) (fun HS => ?_)
     refine tkp (i := 0) rfl HS ?_
     refine tkh (i := 1) (v := (.int .u64 m.i)) rfl ⟨by rfl, fun _ hSw => exec_load_c _ rfl rfl ocU hSw.2.1 rfl⟩ HS ?_
     refine tkh (i := 2) (v := (.agg (ndL p d).toArray)) rfl ⟨by rfl, fun _ hSw => eLb _ rfl rfl nodeT hSw.1 rfl⟩ HS ?_
     try simp only [ly, Act.put]
     refine onh (r := 3) (by kernel_rfl) rfl (fun KK hK => ?_)
     go_simp
     refine (pEnd_any p d hBd K _ HS.2.2.1).mono ?_
     rintro e w4 ⟨rfl, hb⟩
     replace HR := HR.later hb
     go_wp2_with fail
     refine hK.out _ _ ⟨HS.1.later hb, HS.2.1.later hb, HS.2.2.1.later hb, HS.2.2.2.trans (hb.mono HS.2.2.2.size)⟩ (fun HS => ?_)
     clear hK
     refine tkh (i := 4) (v := (.bool true)) rfl ⟨by rfl, ?h4⟩ HS ?_
     case h4 => (intro _ hSw; go_simp; (try with_reducible rfl))
     try simp only [ly, Act.put]
     refine wpAnyH_done (by kernel_rfl) ?_ _
     replace HN := HS.1
     replace HG := HS.2.1
     replace HM := HS.2.2.1
     replace HB := HS.2.2.2
     clear HS
     go_wp2_with (first
      | (refine lBk rfl _ rfl rfl nodeT HN rfl ?_)
      | (refine sBk rfl _ _ rfl rfl rfl nodeT HR rfl rfl rfl ?_; intro w' hk hg; replace HN := HN.grown hg (by have := hyn.out; omega); replace HG := HG.grown hg (by have := hyn.out; omega); replace HM := HM.grown hg (by have := hyn.out; omega) HR.bx.ty bNd; replace HB := bGr HB hg HB.size (by have := hyn.out; omega); replace HR := hk; clear hk hg))
     refine bodyPost_ret (v := .tuple #[ndV p d, .slice none 0 0]) (by rw [rBt Tryz.results79 _ rfl nodeT HR rfl]; rfl) rfl ?_
     rw [HJP.out]
     exact ⟨d, _, [], rfl, HM, CqG.nil _ _ none, rfl, HB⟩
    case neg =>
     have gei : ¬ (p.endI : Int) < (m.i : Int) := by omega
     replace HR := HR.later ((Below.refl _ _).drew)
     refine wp_region_held_drew (S := fun w' => Bk w' w.heap.size 34 (ndL p d) ∧ Bk w' ym 52 (mgC m) ∧ NdM K w' p d ∧ Below w.heap.size w w') (by kernel_rfl) (⟨HN.later ((Below.refl _ _).drew), HG.later ((Below.refl _ _).drew), HM.later ((Below.refl _ _).drew), HB.drew⟩) (fun HS => ?_)
     refine tkp (i := 0) rfl HS ?_
     refine tkh (i := 1) (v := (.int .u64 m.i)) rfl ⟨by rfl, fun _ hSw => exec_load_c _ rfl rfl ocU hSw.2.1 rfl⟩ HS ?_
     refine tkh (i := 2) (v := (.agg (ndL p d).toArray)) rfl ⟨by rfl, fun _ hSw => eLb _ rfl rfl nodeT hSw.1 rfl⟩ HS ?_
     try simp only [ly, Act.put]
     refine onh (r := 3) (by kernel_rfl) rfl (fun KK hK => ?_)
     go_simp
     refine (pEnd_any p d hBd K _ HS.2.2.1).mono ?_
     rintro e w4 ⟨rfl, hb⟩
     replace HR := HR.later hb
     go_wp2_with fail
     refine hK.out _ _ ⟨HS.1.later hb, HS.2.1.later hb, HS.2.2.1.later hb, HS.2.2.2.trans (hb.mono HS.2.2.2.size)⟩ (fun HS => ?_)
     clear hK
     refine tkh (i := 4) (v := (.bool false)) rfl ⟨by rfl, ?h4⟩ HS ?_
     case h4 => (intro _ hSw; go_simp; (try with_reducible rfl))
     try simp only [ly, Act.put]
     refine wpAnyH_done (by kernel_rfl) ?_ _
     replace HN := HS.1
     replace HG := HS.2.1
     replace HM := HS.2.2.1
     replace HB := HS.2.2.2
     clear HS
     obtain ⟨nm, hnm⟩ : ∃ nm : Nat, max m1 m.i = nm := ⟨_, rfl⟩
     obtain ⟨nx, hnx1⟩ : ∃ nx : Nat, (nm + 1) % 18446744073709551616 = nx := ⟨_, rfl⟩
     have HNM := hI_ (show (if (m.i : Int) > (m1 : Int) then (m.i : Int) else (m1 : Int)) = (nm : Int) by rw [← hnm]; exact max_nat m1 m.i)
     have wnx : IntKind.u64.wrap ((nm : Int) + 1) = (nx : Int) := by rw [IntKind.wrap_u64]; omega
     have hnm64 : nm < 18446744073709551616 := by have := HM64.out; omega
     have hnx64 : nx < 18446744073709551616 := by omega
     obtain ⟨PQ, hPQ⟩ : ∃ PQ : Pn, PQ = { p with mat := setN m.fr nm p.mat, next := setN m.fr nx p.next } := ⟨_, rfl⟩
     have hbq : Bd PQ := by
      rw [hPQ]
      exact bd_nxt (bd_mat hBd (by have := setN_len m.fr nm p.mat; omega) (setN_lt hnm64 hBd.marks)) (by have := setN_len m.fr nx p.next; show (setN m.fr nx p.next).length * 16 ≤ _; omega) (setN_lt hnx64 hBd.nexts)
     have HPQ := hI_ hPQ
     obtain ⟨PC, hPC⟩ : ∃ PC : Pn, commitP PQ = PC := ⟨_, rfl⟩
     have hbc : Bd PC := by rw [← hPC]; exact bd_commit hbq
     have HOQ := hI_ (show okQ p m = PC by unfold okQ; rw [HMT.out, hnm, hnx1, ← hPQ, hPC])
     have HPC := hI_ hPC
     have HEN := hI_ (show PC.endI = p.endI by rw [← hPC, hPQ]; unfold commitP; split <;> rfl)
     have HRY := hI_ (show replyP p m = if p.endI < nx then (PC, []) else (PC, [portG PC m.fr]) by
      unfold replyP; rw [if_neg (by rw [HRO.out]; rintro (h | h); exact h rfl; exact absurd h (by rw [HHO.out]; decide)), if_neg (by rw [HOK.out]; simp), if_neg hei, HMT.out, hnm, hnx1, HOQ.out])
     clear hnm hnx1 hPQ hPC
     go_wp2_with (first
      | (refine wpList_val rfl (v := .int .u64 nm) (exec_max2 _ _ _ rfl rfl rfl HNM.out) ?_)
      | (refine lCc rfl _ rfl rfl (ocA rfl) (by assumption) rfl ?_))
     refine (pSet_any m.fr nm _ _ _ p.mat rfl (by have := hmt; omega) _ HM.m).mono ?_
     rintro e w4 ⟨v4, rfl, hcv, hb⟩
     obtain ⟨a4, c4, rfl, hV4, hT4⟩ := hcv.ty K
     replace HB := HB.trans (hb.mono HB.size)
     replace HN := HN.later hb
     replace HG := HG.later hb
     replace HR := HR.later hb
     replace HM := HM.mat hb (c := c4) hV4 hT4
     clear hb hcv hV4 hT4
     obtain ⟨P4, hP4⟩ : ∃ P4 : Pn, P4 = { p with mat := setN m.fr nm p.mat } := ⟨_, rfl⟩
     obtain ⟨D4, hD4⟩ : ∃ D4 : Ad, D4 = { d with m := ⟨a4, c4⟩ } := ⟨_, rfl⟩
     have HP4 := hI_ hP4
     have HD4 := hI_ hD4
     have HN4 := hI_ (show P4.next = p.next by rw [hP4])
     have HN5 := hI_ (show P4.next.length = p.next.length by rw [hP4])
     clear hP4 hD4
     go_wp2_with (first
      | (refine sCc (v := .slice a4 (setN m.fr nm p.mat).length c4) rfl _ _ rfl rfl rfl ocM HN rfl rfl rfl ?_; intro w' hk hg; replace HR := HR.grown hg (by have := hyn.out; omega); replace HG := HG.grown hg (by have := hyn.out; omega); replace HM := HM.grown hg hK HN.bx.ty bNd; replace HB := bGr HB hg HB.size (Nat.le_refl _); replace HN := hk; clear hk hg; (replace HN : Bk w' w.heap.size 34 (ndL P4 D4) := by rw [HP4.out, HD4.out]; exact HN); (replace HM : NdM K w' P4 D4 := by rw [HP4.out, HD4.out]; exact HM))
      | (refine lCc rfl _ rfl rfl (ocA rfl) (by assumption) rfl ?_))
     refine (pSet_any m.fr nx _ _ _ P4.next rfl (by have := hnx; have := HN5.out; omega) _ HM.n).mono ?_
     rintro e w5 ⟨v5, rfl, hcv, hb⟩
     obtain ⟨a5, c5, rfl, hV5, hT5⟩ := hcv.ty K
     replace HB := HB.trans (hb.mono HB.size)
     replace HN := HN.later hb
     replace HG := HG.later hb
     replace HR := HR.later hb
     replace HM := HM.nxt hb (c := c5) hV5 hT5
     clear hb hcv hV5 hT5
     obtain ⟨DQ, hDQ⟩ : ∃ DQ : Ad, DQ = { D4 with n := ⟨a5, c5⟩ } := ⟨_, rfl⟩
     have HDQ := hI_ hDQ
     have HPQ2 := hI_ (show PQ = { P4 with next := setN m.fr nx P4.next } by rw [HN4.out, HPQ.out, HP4.out])
     clear hDQ
     go_wp2_with (first
      | (refine sCc (v := .slice a5 (setN m.fr nx P4.next).length c5) rfl _ _ rfl rfl rfl ocM HN rfl rfl rfl ?_; intro w' hk hg; replace HR := HR.grown hg (by have := hyn.out; omega); replace HG := HG.grown hg (by have := hyn.out; omega); replace HM := HM.grown hg hK HN.bx.ty bNd; replace HB := bGr HB hg HB.size (Nat.le_refl _); replace HN := hk; clear hk hg; (replace HN : Bk w' w.heap.size 34 (ndL PQ DQ) := by rw [HPQ2.out, HDQ.out]; exact HN); (replace HM : NdM K w' PQ DQ := by rw [HPQ2.out, HDQ.out]; exact HM))
      | (refine lBk rfl _ rfl rfl nodeT HN rfl ?_))
     refine (pCommit_any PQ DQ hbq K _ HM).mono ?_
     rw [HPC.out]
     rintro e w6 ⟨DC, rfl, hm6, hb⟩
     replace HB := HB.trans (hb.mono HB.size)
     replace HN := HN.later hb
     replace HG := HG.later hb
     replace HR := HR.later hb
     replace HM := hm6
     clear hb hm6
     go_wp2_with (first
      | (refine sBk rfl _ _ rfl rfl rfl nodeT HN rfl rfl rfl ?_; intro w' hk hg; replace HR := HR.grown hg (by have := hyn.out; omega); replace HG := HG.grown hg (by have := hyn.out; omega); replace HM := HM.grown hg hK HN.bx.ty bNd; replace HB := bGr HB hg HB.size (Nat.le_refl _); replace HN := hk; clear hk hg)
      | (refine lBk rfl _ rfl rfl nodeT HN rfl ?_))
     refine (pEnd_any PC DC hbc K _ HM).mono ?_
     rw [HEN.out]
     rintro e w7 ⟨rfl, hb⟩
     replace HB := HB.trans (hb.mono HB.size)
     replace HN := HN.later hb
     replace HG := HG.later hb
     replace HR := HR.later hb
     replace HM := HM.later hb
     clear hb
     by_cases hx : p.endI < nx
     case pos =>
      have gx : (p.endI : Int) < (nx : Int) := by omega
      have HJP := hI_ (show replyP p m = (PC, []) by rw [HRY.out, if_pos hx])
      go_wp2_with (first
       | (refine lBk rfl _ rfl rfl nodeT HN rfl ?_)
       | (refine sBk rfl _ _ rfl rfl rfl nodeT HR rfl rfl rfl ?_; intro w' hk hg; replace HN := HN.grown hg (by have := hyn.out; omega); replace HG := HG.grown hg (by have := hyn.out; omega); replace HM := HM.grown hg (by have := hyn.out; omega) HR.bx.ty bNd; replace HB := bGr HB hg HB.size (by have := hyn.out; omega); replace HR := hk; clear hk hg))
      refine bodyPost_ret (v := .tuple #[ndV PC DC, .slice none 0 0]) (by rw [rBt Tryz.results79 _ rfl nodeT HR rfl]; rfl) rfl ?_
      rw [HJP.out]
      exact ⟨DC, _, [], rfl, HM, CqG.nil _ _ none, rfl, HB⟩
     case neg =>
      have gx : ¬ (p.endI : Int) < (nx : Int) := by omega
      have HJP := hI_ (show replyP p m = (PC, [portG PC m.fr]) by rw [HRY.out, if_neg hx])
      go_wp2_with fail
      replace HR := HR.later ((Below.refl _ _).drew)
      refine wp_region_held_drew (S := fun w' => Bk w' w.heap.size 34 (ndL PC DC) ∧ Bk w' ym 52 (mgC m) ∧ NdM K w' PC DC ∧ Below w.heap.size w w') (by kernel_rfl) (⟨HN.later ((Below.refl _ _).drew), HG.later ((Below.refl _ _).drew), HM.later ((Below.refl _ _).drew), HB.drew⟩) (fun HS => ?_)
      refine tkh (i := 0) (v := (.agg (ndL PC DC).toArray)) rfl ⟨by rfl, fun _ hSw => eLb _ rfl rfl nodeT hSw.1 rfl⟩ HS ?_
      refine tkh (i := 1) (v := (.agg (ndL PC DC).toArray)) rfl ⟨by rfl, fun _ hSw => eLb _ rfl rfl nodeT hSw.1 rfl⟩ HS ?_
      try simp only [ly, Act.put]
      refine tkp (i := 2) rfl HS ?_
      refine tkh (i := 3) (v := (.int .u64 m.fr)) rfl ⟨by rfl, fun _ hSw => exec_load_c _ rfl rfl ocU hSw.2.1 rfl⟩ HS ?_
      try simp only [ly, Act.put]
      refine onh (r := 4) (by kernel_rfl) rfl (fun KK hK => ?_)
      obtain ⟨z, hz, hb, HU1⟩ := us_at HS.2.2.2 m.fr
      go_simp
      replace HR := HR.later hb
      clear hz
      refine hK.out _ _ ⟨HS.1.later hb, HS.2.1.later hb, HS.2.2.1.later hb, HS.2.2.2.trans (hb.mono HS.2.2.2.size)⟩ (fun HS => ?_)
      clear hK
      try simp only [ly, Act.put]
      refine onh (r := 5) (by kernel_rfl) rfl (fun KK hK => ?_)
      go_simp
      refine (pSend_any PC DC hbc K 1 1 (some ⟨z, 0, none⟩) [m.fr] rfl (by decide) _ HS.2.2.1 HU1).mono ?_
      rintro e w5 ⟨v, O, rfl, hC, hO, hb⟩
      have HC := hC.mono HS.2.2.2.size
      have HO := hI_ hO
      clear hC hO
      replace HR := HR.later hb
      go_wp2_with fail
      refine hK.out _ _ ⟨HS.1.later hb, HS.2.1.later hb, HS.2.2.1.later hb, HS.2.2.2.trans (hb.mono HS.2.2.2.size)⟩ (fun HS => ?_)
      clear hK
      try simp only [ly, Act.put]
      refine onh (r := 6) (by kernel_rfl) rfl (fun KK hK => ?_)
      rw [if_pos (by rfl)]
      refine wSb _ _ rfl rfl (M := ndL PC DC) rfl nodeT HR rfl rfl rfl ?_
      intro w' hk hg
      have HS9 := And.intro (HS.1.grown hg (by have := hyn.out; omega)) (And.intro (HS.2.1.grown hg (by have := hyn.out; omega)) (And.intro (HS.2.2.1.grown hg (by have := hyn.out; omega) HR.bx.ty bNd) (bGr HS.2.2.2 hg HS.2.2.2.size (by have := hyn.out; omega))))
      have HC := HC.box hg HR.bx.ty boxNm
      replace HR := hk
      clear hk hg
      refine hK.out _ _ HS9 (fun HS => ?_)
      clear HS9
      clear hK
      try simp only [ly, Act.put]
      refine tkp (i := 7) rfl HS ?_
      try simp only [ly, Act.put]
      refine wpAnyH_done (by kernel_rfl) ?_ _
      go_wp2_with fail
      refine bodyPost_ret (v := .tuple #[ndV PC DC, v]) (by rw [rBt Tryz.results79 _ rfl nodeT HR rfl]; rfl) rfl ?_
      rw [HJP.out]
      exact ⟨DC, v, O, rfl, HS.2.2.1, HC, HO.out, HS.2.2.2⟩
end Go.Proofs.YtdcpiaoadbbdoaaGreat
