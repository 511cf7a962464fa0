/- RaftVotes: in each term a node grants its vote to one node at most. -/
import Derived.Test.YtdcpiaoadbbdoaaGreatDoorRtake
import Derived.Test.YtdcpiaoadbbdoaaGreatDoorQla
import Derived.Test.YtdcpiaoadbbdoaaGreatDoorQz
set_option maxRecDepth 100000
set_option maxHeartbeats 16000000
namespace Go.Proofs.YtdcpiaoadbbdoaaGreatDoor
open Go.RowKit

def Vi (tm gt : Nat) (Q : Pn) : Prop := tm ≤ Q.term ∧ (tm = Q.term → gt ≠ 0 → Q.vote = gt)
theorem vi_own {tm gt : Nat} {P Q : Pn} (h : Vi tm gt P) (hv : Tv P Q) (hr : Q.role = 2 ∨ Q.role = 3) (ht : P.term < Q.term) : tm < Q.term ∧ Vi Q.term P.id Q := by
 have := h.1
 exact ⟨by omega, Nat.le_refl _, fun _ _ => hv.own hr ht⟩
theorem vi_on {tm gt : Nat} {P Q : Pn} (h : Vi tm gt P) (hv : Tv P Q) : Vi tm gt Q := by
 have h1 := h.1
 have h2 := hv.term
 refine ⟨by omega, fun e e2 => ?_⟩
 have e3 : Q.term = P.term := by omega
 have e4 := h.2 (by omega) e2
 rw [← e4]
 exact hv.vote e3 (by rw [e4]; exact e2)
theorem vi_msg {tm gt : Nat} {P Q : Pn} {m y : Mg} (h : Vi tm gt Q) (hm : Mk2 P Q m y) (hk : y.kind = 4) (ho : y.ok = true) : ¬ y.term < tm ∧ (y.term = tm → gt ≠ 0 → gt = y.dst) ∧ Vi y.term y.dst Q := by
 obtain ⟨h1, h2, h3, _⟩ := hm.voted hk ho
 have := h.1
 refine ⟨by omega, fun e e2 => ?_, by rw [h1]; exact Nat.le_refl _, fun _ _ => by rw [h3, h2]⟩
 have := h.2 (by omega) e2
 rw [← this, h3, h2]
theorem law_RaftVotes (id : Nat) (c : Cf) (s1 s2 : Sa) (t vt : Nat) (g : Lg) (sg : Sa) (A : List Ac) (sa : Option Addr) (n sc : Nat) (hid : id < 18446744073709551616) (hvl : c.V.length ≤ 140737488351232) (hll : c.L.length ≤ 140737488351232) (hec : g.L.length ≤ sg.c) (hem : sg.c ≤ maxLen) (hel : g.L.length ≤ 140737488351232) (hsn : g.snap.size ≤ 140737488351232) (hdt : ∀ x ∈ g.L, x.d.size ≤ 140737488351232) (hal : A.length = n) (han : n ≤ 140737488351232) (w : World) (hV : Us w s1.a c.V) (hU : Us w s2.a c.L) (hE : Ents w sg.a g.L) (hA : Acs w sa A) (hOK : ∀ x ∈ A, AcOk w x) (hT : Tz w) :
 Calls Tryz.prog 6 #[.agg #[.int .u64 id, .slice s1.a c.V.length s1.c, .slice s2.a c.L.length s2.c, .int .u64 t, .int .u64 vt, .int .u64 g.base, .int .u64 g.bt, .string g.snap, .slice sg.a g.L.length sg.c, .slice sa n sc]] w (Yes w) := by
 obtain ⟨W0, x1, hW0, hx1, B0, HW, Z0⟩ := bk_new w #[.int .u64 id, .slice s1.a c.V.length s1.c, .slice s2.a c.L.length s2.c, .int .u64 t, .int .u64 vt, .int .u64 g.base, .int .u64 g.bt, .string g.snap, .slice sg.a g.L.length sg.c, .slice sa n sc] 67
 obtain ⟨W1, x4, hW1, hx4, B1, HC, Z1⟩ := bk_new W0 #[.slice s1.a c.V.length s1.c, .slice s2.a c.L.length s2.c] 25
 obtain ⟨W2, x5, hW2, hx5, B2, HS5, Z2⟩ := bk_new W1 #[.int .u64 t, .int .u64 vt, .int .u64 g.base, .int .u64 g.bt, .string g.snap, .slice sg.a g.L.length sg.c] 30
 have B0' : Below w.heap.size w W0 := hx1 ▸ B0
 have B1' : Below W0.heap.size W0 W1 := hx4 ▸ B1
 have B2' : Below W1.heap.size W1 W2 := hx5 ▸ B2
 have HW1 := HW.later B1'
 have HW2 := HW1.later B2'
 replace HC := HC.later B2'
 have HB1 := B0'.trans (B1'.mono B0'.size)
 have HB := HB1.trans (B2'.mono HB1.size)
 have hx45 := hI_ (show w.heap.size = x1 ∧ x1 < x4 ∧ x4 < x5 by have := Z0.out; have := Z1.out; omega)
 have HNN := hI_ hal
 have HAA := hI_ hA
 have HOO := hI_ hOK
 have HTZ := hI_ (show ∀ w1, Below w.heap.size w w1 → Tz w1 from fun w1 h => hT.below (h.mono hT.n))
 clear hT
 have HNW := hI_ (show ∀ w1, Below w.heap.size w w1 → Calls Tryz.prog 16 #[.int .u64 id, .agg #[.slice s1.a c.V.length s1.c, .slice s2.a c.L.length s2.c], .agg #[.int .u64 t, .int .u64 vt, .int .u64 g.base, .int .u64 g.bt, .string g.snap, .slice sg.a g.L.length sg.c]] w1 (NwP w1.heap.size w1 id c t vt g) from fun w1 h => pNew_any id c s1 s2 sg t vt g hid hvl hll hel hec hem hsn hdt w1.heap.size w1 (Nat.le_refl _) (hV.later h) (hU.later h) (hE.later h))
 clear hV hU hE hA hOK B0 B1 B2 B0' B1' B2' HB1 hal
 obtain ⟨P0, hP0⟩ : ∃ P0, newP id c t vt g = P0 := ⟨_, rfl⟩
 have HP0 := hI_ hP0
 go_enter Tryz.func6, Tryz.ntmps6
 go_wp2_with (first
  | (refine lSb rfl _ rfl rfl [.slice s1.a c.V.length s1.c, .slice s2.a c.L.length s2.c] confT HW rfl rfl ?_)
  | (refine lSb rfl _ rfl rfl [.int .u64 t, .int .u64 vt, .int .u64 g.base, .int .u64 g.bt, .string g.snap, .slice sg.a g.L.length sg.c] stabT HW1 rfl rfl ?_)
  | (refine lCc rfl _ rfl rfl (by first | exact ocU | exact ocAc) HW rfl ?_)
  | (refine lCc rfl _ rfl rfl (by first | exact ocU | exact ocAc) HW2 rfl ?_))
 refine (pShown_any _).mono ?_
 rintro e w3 ⟨rfl, hb⟩
 replace HB := HB.trans (hb.mono HB.size)
 replace HC := HC.later hb
 replace HS5 := HS5.later hb
 clear hb HW HW1 HW2
 obtain ⟨K, hK⟩ : ∃ K, K = w3.heap.size := ⟨_, rfl⟩
 have HKK := hI_ (show w.heap.size ≤ K by rw [hK]; exact HB.size)
 go_wp2_with (first
  | (refine lBk rfl _ rfl rfl confT HC rfl ?_)
  | (refine lBk rfl _ rfl rfl stabT HS5 rfl ?_))
 have HNX := hI_ (HNW.out w3 HB)
 rw [← hK] at HNX
 refine HNX.out.mono ?_
 rintro e w4 ⟨hn, hb⟩
 have hKs := hI_ (show K ≤ w4.heap.size by rw [hK]; exact hb.size)
 replace HB := HB.trans (hb.mono HB.size)
 replace HS5 := HS5.later hb
 clear hb HNW HC hK
 obtain ⟨w8, x8, hw8, hx8, B8, HN, Z8⟩ := bk_new w4 znA 34
 have B8' : Below w4.heap.size w4 w8 := hx8 ▸ B8
 have hxx := hI_ (show w.heap.size ≤ x8 ∧ K ≤ x8 ∧ x5 < x8 by have := hKs.out; have := HKK.out; have := HS5.lt; omega)
 have HB4 := hI_ HB.size
 replace HB := HB.trans (B8'.mono HB.size)
 replace HS5 := HS5.later B8'
 unfold znA at hw8
 clear B8
 rcases hn with ⟨hok, D0, rfl, HM⟩ | ⟨_, rfl⟩
 case inr =>
  go_wp2_with (first
   | (refine sBk rfl _ _ rfl rfl (M := znA.toList) rfl nodeT HN rfl rfl rfl ?_; intro w' hk5 hg; replace HB := bGr HB hg HB.size (by have := hxx.out; omega); replace HN := hk5; clear hk5 hg))
  go_ret
  exact ⟨rfl, HB⟩
 case inl =>
  replace HM := HM.later B8'
  clear B8'
  rw [HP0.out] at HM
  have hiv : Iv P0 := by rw [← HP0.out]; exact iv_new hok.1 hok.2.1 hok.2.2
  have hhd : P0.heard ≤ 10 := by rw [← HP0.out]; show (0 : Int) ≤ 10; decide
  rw [HP0.out]
  have hpid : P0.id = id := by rw [← HP0.out]; rfl
  have hv0 : P0.term = t ∧ P0.vote = vt := by rw [← HP0.out]; exact ⟨rfl, rfl⟩
  have HV0 := hI_ hv0
  clear hok hv0
  go_upto_if 41 with (first
   | (refine sBk rfl _ _ rfl rfl (M := ndL P0 D0) rfl nodeT HN rfl rfl rfl ?_; intro w' hk5 hg; replace HM := HM.grown hg (by have := hxx.out; omega) HN.bx.ty bNd; replace HB := bGr HB hg HB.size (by have := hxx.out; omega); replace HS5 := HS5.grown hg (by have := hxx.out; omega); replace HN := hk5; clear hk5 hg)
   | (refine lCc rfl _ rfl rfl ocU HS5 rfl ?_))
  clear hw8
  go_cut [10, 11] (fun tv gv wx => ∃ (tm gt : Nat), tv = .int .u64 tm ∧ gv = .int .u64 gt ∧ Vi tm gt P0 ∧ Bk wx x8 34 (ndL P0 D0) ∧ NdM K wx P0 D0 ∧ Below w.heap.size w wx)
  case first =>
   by_cases hvt : vt = 0
   · have g1 : ((vt : Int) == 0) = true := by simp; omega
     have g1' : ((vt : Int) != 0) = false := by simp; omega
     clear hvt
     go_wp2_with (first
      | (refine lCc rfl _ rfl rfl ocU HS5 rfl ?_))
     go_meet
     exact ⟨0, 0, rfl, rfl, ⟨Nat.zero_le _, fun _ h => absurd rfl h⟩, HN, HM, HB⟩
   · have g1 : ((vt : Int) == 0) = false := by simp; omega
     have g1' : ((vt : Int) != 0) = true := by simp; omega
     go_wp2_with (first
      | (refine lCc rfl _ rfl rfl ocU HS5 rfl ?_))
     go_meet
     exact ⟨t, vt, rfl, rfl, ⟨by rw [HV0.out.1]; exact Nat.le_refl _, fun _ _ => HV0.out.2⟩, HN, HM, HB⟩
  clear HN HM HB HS5 HV0
  obtain ⟨tm0, gt0, rfl, rfl, hvi0, HN, HM, HB⟩ := hcut
  go_wp2_with fail
  go_loopw [10, 11, 12] (fun tv gv i wr => ∃ (k : Nat) (P : Pn) (D : Ad) (tm gt : Nat), k ≤ n ∧ i = .int .i64 k ∧ tv = .int .u64 tm ∧ gv = .int .u64 gt ∧ Vi tm gt P ∧ P.id = id ∧ Bk wr x8 34 (ndL P D) ∧ NdM K wr P D ∧ Iv P ∧ P.heard ≤ 10 ∧ Below w.heap.size w wr) (fun _ _ i _ => n - (intOf i).toNat)
  case atStart => exact ⟨0, P0, D0, tm0, gt0, Nat.zero_le _, rfl, rfl, rfl, hvi0, hpid, HN, HM, hiv, hhd, HB⟩
  case round =>
   clear HN HM hiv hhd hvi0 hpid HB
   obtain ⟨k, P, D, tm, gt, hk, rfl, rfl, rfl, hvi, hpid, HN, HM, hI, hh, HB⟩ := hrel
   by_cases hlt : k < n
   · obtain ⟨x, hx⟩ : ∃ x, A[k]? = some x := ⟨_, List.getElem?_eq_getElem (by rw [HNN.out]; exact hlt)⟩
     have hok := HOO.out x (List.mem_of_getElem? hx)
     have i0 : (0 : Int) ≤ (k : Int) := by omega
     have i1 : (k : Int) < (n : Int) := by omega
     obtain ⟨b, off, rfl, hb0, hc0⟩ := HAA.out k x hx
     have HAC := hI_ (show ∀ w1, Below w.heap.size w w1 → ∀ j u, (acC x)[j]? = some u → w1.cell? ⟨b, off + k * 15 + j, none⟩ = some u from fun w1 h j u hu => (h.cell (p := ⟨b, off + k * 15 + j, none⟩) hb0).trans (hc0 j u hu))
     have HEX := hI_ (show ∀ w1, Below w.heap.size w w1 → Ents w1 x.m.at_ x.m.es from fun w1 h => hok.E.later h)
     clear hx hc0
     have hes : x.m.es.length ≤ 8000000000000 := by have := hok.m.es; omega
     obtain ⟨Q, hQ⟩ : ∃ Q, doesP P x = Q := ⟨_, rfl⟩
     have HQ := hI_ hQ
     have hIQ : Iv Q := by rw [← hQ]; exact iv_does hI hok.m
     have hhQ : Q.heard ≤ 10 := by rw [← hQ]; exact hd_does hh x
     have hb1 : P.role = 1 → P.term + 1 < 18446744073709551616 := fun _ => by have := hI.term; omega
     have htv : Tv P Q := by rw [← hQ]; exact tv_does hb1 x
     have hidQ : Q.id = id := htv.id.trans hpid
     have HPID := hI_ hpid
     have HVI := hI_ hvi
     have HTV := hI_ htv
     have HIDQ := hI_ hidQ
     clear hQ hb1 hvi htv hidQ hpid
     obtain ⟨w14, x14, hw14, hx14, B14, H14, Z14⟩ := bk_new wr znA 34
     have B14' : Below wr.heap.size wr w14 := hx14 ▸ B14
     have hxt := hI_ (show x8 < x14 ∧ w.heap.size ≤ x14 from ⟨hx14 ▸ HN.lt, hx14 ▸ HB.size⟩)
     have HN0 := HN
     replace HN := HN.later B14'
     replace HM := HM.later B14'
     replace HB := HB.trans (B14'.mono HB.size)
     unfold znA at hw14
     clear B14 B14'
     have p0 := HAC.out _ HB 0 _ rfl
     rw [Nat.add_zero] at p0
     go_upto_region 19 with (first
      | (refine lBk rfl _ rfl rfl nodeT HN0 rfl ?_)
      | (refine sBk rfl _ _ rfl rfl (M := ndL P D) rfl nodeT H14 rfl rfl rfl ?_; intro w' hk5 hg; replace HN := HN.grown hg (by have := hxt.out; omega); replace HM := HM.grown hg (by have := hxt.out; have := hxx.out; omega) H14.bx.ty bNd; replace HB := bGr HB hg HB.size (by have := hxt.out; omega); replace H14 := hk5; clear hk5 hg))
     clear HN0 p0 hw14
     have p0 := HAC.out _ HB 0 _ rfl
     rw [Nat.add_zero] at p0
     go_upto_if 58 with fail
     clear p0
     go_cut [13] (fun ov wx => ∃ (D3 : Ad) (oa : Option Addr) (on oc : Nat) (O : List Mg), O.length = on ∧ on ≤ 9223372036854775807 ∧ ov = .slice oa on oc ∧ Mgs wx oa O ∧ (∀ y ∈ O, Mk2 P Q x.m y.pl) ∧ Bk wx x8 34 (ndL P D) ∧ Bk wx x14 34 (ndL Q D3) ∧ NdM K wx Q D3 ∧ Below w.heap.size w wx)
     case first =>
      by_cases hk2 : x.k = 2
      case pos =>
       have gk : (x.k == 2) = true := by rw [hk2]; rfl
       obtain ⟨M3, hM3⟩ : ∃ M3, (hearP P x.m).2 = M3 := ⟨_, rfl⟩
       have hq2 : (hearP P x.m).1 = Q := by rw [← HQ.out]; unfold doesP; rw [if_neg (by omega), if_pos hk2]
       have HHP := hI_ (show hearP P x.m = (Q, M3) from Prod.ext hq2 hM3)
       have HMK := hI_ (show ∀ y ∈ M3, Mk2 P Q x.m y by rw [← hM3, ← hq2]; exact hear_ok hI.may x.m)
       clear hk2 hM3 hq2
       go_wp2_with fail
       replace H14 := H14.later ((Below.refl _ _).drew)
       refine wp_region_held_drew (S := fun w' => Bk w' x8 34 (ndL P D) ∧ NdM K w' P D ∧ Below w.heap.size w w') (by kernel_rfl) (⟨HN.later ((Below.refl _ _).drew), HM.later ((Below.refl _ _).drew), HB.drew⟩) (fun HS => ?_)
       refine tkh (i := 0) (v := (.agg (ndL P D).toArray)) rfl ⟨by rfl, fun _ hSw => eLb _ rfl rfl nodeT hSw.1 rfl⟩ HS ?_
       try simp only [ly, Act.put]
       refine tkp (i := 1) rfl HS ?_
       try simp only [ly, Act.put]
       refine tkp (i := 2) rfl HS ?_
       try simp only [ly, Act.put]
       refine tkp (i := 3) rfl HS ?_
       try simp only [ly, Act.put]
       refine tkp (i := 4) rfl HS ?_
       refine tkh (i := 5) (v := (.agg #[.int .i64 x.m.kind, .int .u64 x.m.fr, .int .u64 x.m.dst, .int .u64 x.m.term, .int .u64 x.m.i, .int .u64 x.m.lt, .int .u64 x.m.commit, .bool x.m.ok, .slice x.m.at_ x.m.es.length x.m.cap, .string x.m.snap])) rfl ⟨by rfl, fun _ hSw => exec_load_el _ rfl rfl (mgC x.m) messT rfl (act_sub x 2 10 _ rfl rfl (HAC.out _ hSw.2.2))⟩ HS ?_
       try simp only [ly, Act.put]
       refine onh (r := 6) (by kernel_rfl) rfl (fun KK hK => ?_)
       go_simp
       refine (pHear_any P D hI.bd x.m hok.m (by have := hI.g.len; omega) (by have := hI.vlen; omega) (by have := hI.nlen; omega) (by have := hI.mlen; omega) K _ (by have := hxx.out; have := HS.1.lt; omega) HS.2.1 (HEX.out _ HS.2.2)).mono ?_
       rw [HHP.out]
       rintro e w5 ⟨D3, v, O, rfl, hm3, hC, hO, hb⟩
       simp only at hO hm3
       have HM3 := hm3
       have HC := hC
       have HO := hI_ hO
       clear hm3 hC hO
       replace H14 := H14.later hb
       go_wp2_with fail
       refine hK.out _ _ ⟨HS.1.later hb, HS.2.1.later hb, HS.2.2.trans (hb.mono HS.2.2.size)⟩ (fun HS => ?_)
       clear hK
       try simp only [ly, Act.put]
       refine tkp (i := 7) rfl HS ?_
       try simp only [ly, Act.put]
       refine tkp (i := 8) rfl HS ?_
       try simp only [ly, Act.put]
       refine tkp (i := 9) rfl HS ?_
       try simp only [ly, Act.put]
       refine onh (r := 10) (by kernel_rfl) rfl (fun KK hK => ?_)
       rw [if_pos (by rfl)]
       refine wSb _ _ rfl rfl (M := ndL Q D3) rfl nodeT H14 rfl rfl rfl ?_
       intro w' hk5 hg
       have HS9 := And.intro (HS.1.grown hg (by have := hxt.out; omega)) (And.intro (HS.2.1.grown hg (by have := hxt.out; have := hxx.out; omega) H14.bx.ty bNd) (bGr HS.2.2 hg HS.2.2.size (by have := hxt.out; omega)))
       replace HM3 := HM3.grown hg (by have := hxt.out; have := hxx.out; omega) H14.bx.ty bNd
       replace HC := HC.box hg H14.bx.ty boxNm
       replace H14 := hk5
       clear hk5 hg
       refine hK.out _ _ HS9 (fun HS => ?_)
       clear HS9
       clear hK
       try simp only [ly, Act.put]
       refine tkp (i := 11) rfl HS ?_
       try simp only [ly, Act.put]
       refine wpAnyH_done (by kernel_rfl) ?_ _
       obtain ⟨oa, oc, rfl, hOM, hl1, hl2⟩ := HC.form
       have hl3 : O.length ≤ 9223372036854775807 := by unfold maxLen at hl2; omega
       clear hl1 hl2
       go_wp2_with fail
       go_meet
       exact ⟨D3, oa, O.length, oc, O, rfl, hl3, rfl, hOM, fun y hy => HMK.out _ (by rw [← HO.out]; exact List.mem_map_of_mem hy), HS.1, H14, HM3, HS.2.2⟩
      case neg =>
       have gk : (x.k == 2) = false := by simpa using hk2
       clear hk2
       go_wp2_with fail
       replace H14 := H14.later ((Below.refl _ _).drew)
       refine wp_region_held_drew (S := fun w' => Bk w' x8 34 (ndL P D) ∧ NdM K w' P D ∧ Below w.heap.size w w') (by kernel_rfl) (⟨HN.later ((Below.refl _ _).drew), HM.later ((Below.refl _ _).drew), HB.drew⟩) (fun HS => ?_)
       refine tkh (i := 0) (v := (.agg (ndL P D).toArray)) rfl ⟨by rfl, fun _ hSw => eLb _ rfl rfl nodeT hSw.1 rfl⟩ HS ?_
       try simp only [ly, Act.put]
       refine tkp (i := 1) rfl HS ?_
       try simp only [ly, Act.put]
       refine tkp (i := 2) rfl HS ?_
       try simp only [ly, Act.put]
       refine tkp (i := 3) rfl HS ?_
       refine tkh (i := 4) (v := (.agg #[.int .i64 x.k, .int .u64 x.n, .int .i64 x.m.kind, .int .u64 x.m.fr, .int .u64 x.m.dst, .int .u64 x.m.term, .int .u64 x.m.i, .int .u64 x.m.lt, .int .u64 x.m.commit, .bool x.m.ok, .slice x.m.at_ x.m.es.length x.m.cap, .string x.m.snap, .string x.s, .int .i64 x.xk, .int .u64 x.xi])) rfl ⟨by rfl, fun _ hSw => exec_load_el _ rfl rfl (acC x) actT rfl (HAC.out _ hSw.2.2)⟩ HS ?_
       try simp only [ly, Act.put]
       refine onh (r := 5) (by kernel_rfl) rfl (fun KK hK => ?_)
       go_simp
       refine (pDoes_any P D hI hh x hok.n hok.m hok.s hok.xi hes K _ (by have := hxx.out; have := HS.1.lt; omega) (HTZ.out _ HS.2.2) HS.2.1 (HEX.out _ HS.2.2)).mono ?_
       rw [HQ.out]
       rintro e w5 ⟨D3, rfl, hm3, hb⟩
       have HM3 := hm3
       clear hm3
       replace H14 := H14.later hb
       go_wp2_with fail
       refine hK.out _ _ ⟨HS.1.later hb, HS.2.1.later hb, HS.2.2.trans (hb.mono HS.2.2.size)⟩ (fun HS => ?_)
       clear hK
       try simp only [ly, Act.put]
       refine onh (r := 6) (by kernel_rfl) rfl (fun KK hK => ?_)
       rw [if_pos (by rfl)]
       refine wSb _ _ rfl rfl (M := ndL Q D3) rfl nodeT H14 rfl rfl rfl ?_
       intro w' hk5 hg
       have HS9 := And.intro (HS.1.grown hg (by have := hxt.out; omega)) (And.intro (HS.2.1.grown hg (by have := hxt.out; have := hxx.out; omega) H14.bx.ty bNd) (bGr HS.2.2 hg HS.2.2.size (by have := hxt.out; omega)))
       replace HM3 := HM3.grown hg (by have := hxt.out; have := hxx.out; omega) H14.bx.ty bNd
       replace H14 := hk5
       clear hk5 hg
       refine hK.out _ _ HS9 (fun HS => ?_)
       clear HS9
       clear hK
       try simp only [ly, Act.put]
       refine wpAnyH_done (by kernel_rfl) ?_ _
       go_wp2_with fail
       go_meet
       exact ⟨D3, none, 0, 0, [], rfl, by omega, rfl, Rw.nil _, (fun y hy => by cases hy), HS.1, H14, HM3, HS.2.2⟩
     clear HN HM HB H14
     obtain ⟨D3, oa, on, oc, O, hon, hon2, rfl, HOM, hMK, HN, H14, HM, HB⟩ := hcut
     have HON := hI_ hon
     have HMK := hI_ hMK
     clear hon hMK
     have q3 := H14.bx.c 3 _ rfl
     have q9 := H14.bx.c 9 _ rfl
     have n3 := HN.bx.c 3 _ rfl
     go_upto_region 22 with fail
     go_cut [91] (fun bv wx => ∃ nb : Bool, bv = .bool nb ∧ (nb = true ↔ (Q.role = 2 ∨ Q.role = 3) ∧ P.term < Q.term) ∧ Mgs wx oa O ∧ Bk wx x8 34 (ndL P D) ∧ Bk wx x14 34 (ndL Q D3) ∧ NdM K wx Q D3 ∧ Below w.heap.size w wx)
     case first =>
      by_cases h1 : P.term < Q.term
      · have g1 : decide ((P.term : Int) < (Q.term : Int)) = true := by simp; omega
        by_cases h2 : Q.role = 2
        · have g2 : (Q.role == 2) = true := by simp [h2]
          have HY := hI_ (show (Q.role = 2 ∨ Q.role = 3) ∧ P.term < Q.term from ⟨.inl h2, h1⟩)
          clear h2
          go_wp2_with fail
          go_meet
          exact ⟨true, rfl, ⟨fun _ => HY.out, fun _ => rfl⟩, HOM, HN, H14, HM, HB⟩
        · have g2 : (Q.role == 2) = false := by simpa using h2
          by_cases h3 : Q.role = 3
          · have g3 : (Q.role == 3) = true := by simp [h3]
            have HY := hI_ (show (Q.role = 2 ∨ Q.role = 3) ∧ P.term < Q.term from ⟨.inr h3, h1⟩)
            clear h3
            go_wp2_with fail
            go_meet
            exact ⟨true, rfl, ⟨fun _ => HY.out, fun _ => rfl⟩, HOM, HN, H14, HM, HB⟩
          · have g3 : (Q.role == 3) = false := by simpa using h3
            have HY := hI_ (show ¬ ((Q.role = 2 ∨ Q.role = 3) ∧ P.term < Q.term) from fun h => h.1.elim h2 h3)
            clear h2 h3
            go_wp2_with fail
            go_meet
            exact ⟨false, rfl, ⟨(fun h => by cases h), fun h => absurd h HY.out⟩, HOM, HN, H14, HM, HB⟩
      · have g1 : decide ((P.term : Int) < (Q.term : Int)) = false := by simp; omega
        have HY := hI_ (show ¬ ((Q.role = 2 ∨ Q.role = 3) ∧ P.term < Q.term) from fun h => h1 h.2)
        by_cases h2 : Q.role = 2
        · have g2 : (Q.role == 2) = true := by simp [h2]
          clear h2
          go_wp2_with fail
          go_meet
          exact ⟨false, rfl, ⟨(fun h => by cases h), fun h => absurd h HY.out⟩, HOM, HN, H14, HM, HB⟩
        · have g2 : (Q.role == 2) = false := by simpa using h2
          by_cases h3 : Q.role = 3
          · have g3 : (Q.role == 3) = true := by simp [h3]
            clear h3
            go_wp2_with fail
            go_meet
            exact ⟨false, rfl, ⟨(fun h => by cases h), fun h => absurd h HY.out⟩, HOM, HN, H14, HM, HB⟩
          · have g3 : (Q.role == 3) = false := by simpa using h3
            clear h2 h3
            go_wp2_with fail
            go_meet
            exact ⟨false, rfl, ⟨(fun h => by cases h), fun h => absurd h HY.out⟩, HOM, HN, H14, HM, HB⟩
     clear HN HM HB H14 HOM q3 q9 n3
     obtain ⟨nb, rfl, hnb, HOM, HN, H14, HM, HB⟩ := hcut
     have HNB := hI_ hnb
     clear hnb
     have q3 := H14.bx.c 3 _ rfl
     go_upto_if 91 with fail
     go_cut [10, 11] (fun tv gv wx => ∃ (tm gt : Nat), tv = .int .u64 tm ∧ gv = .int .u64 gt ∧ Vi tm gt Q ∧ Mgs wx oa O ∧ Bk wx x8 34 (ndL P D) ∧ Bk wx x14 34 (ndL Q D3) ∧ NdM K wx Q D3 ∧ Below w.heap.size w wx)
     case first =>
      cases nb
      case false =>
       go_wp2_with fail
       go_meet
       exact ⟨tm, gt, rfl, rfl, vi_on HVI.out HTV.out, HOM, HN, H14, HM, HB⟩
      case true =>
       obtain ⟨h1, h2⟩ := vi_own HVI.out HTV.out (HNB.out.1 rfl).1 (HNB.out.1 rfl).2
       rw [HPID.out] at h2
       have HV2 := hI_ h2
       have g1 : ¬ (Q.term : Int) ≤ (tm : Int) := by omega
       have g2 : decide ((Q.term : Int) ≤ (tm : Int)) = false := by simp; omega
       clear h1 h2
       go_wp2_with fail
       go_meet
       exact ⟨Q.term, id, rfl, rfl, HV2.out, HOM, HN, H14, HM, HB⟩
     clear HN HM HB H14 HOM q3
     obtain ⟨tm2, gt2, rfl, rfl, hvi2, HOM, HN, H14, HM, HB⟩ := hcut
     have HV2 := hI_ hvi2
     clear hvi2
     go_wp2_with fail
     go_loop [10, 11, 15] (fun tv gv i => ∃ (j tm gt : Nat), j ≤ on ∧ i = .int .i64 j ∧ tv = .int .u64 tm ∧ gv = .int .u64 gt ∧ Vi tm gt Q) (fun _ _ i => on - (intOf i).toNat)
     case atStart => exact ⟨0, tm2, gt2, Nat.zero_le _, rfl, rfl, rfl, HV2.out⟩
     case round =>
      obtain ⟨j, tm3, gt3, hj, rfl, rfl, rfl, hvi3⟩ := hrel
      have HV3 := hI_ hvi3
      clear hvi3
      by_cases hjl : j < on
      · obtain ⟨y, hy⟩ : ∃ y, O[j]? = some y := ⟨_, List.getElem?_eq_getElem (by rw [HON.out]; exact hjl)⟩
        have hmy := HMK.out y (List.mem_of_getElem? hy)
        have j0 : (0 : Int) ≤ (j : Int) := by omega
        have j1 : (j : Int) < (on : Int) := by omega
        obtain ⟨ob, oo, rfl, ho0, hoc⟩ := HOM j y hy
        have o0 := hoc 0 _ rfl
        have o2 := hoc 2 _ rfl
        have o3 := hoc 3 _ rfl
        have o7 := hoc 7 _ rfl
        simp only [Nat.add_zero] at o0
        have HMY := hI_ hmy
        clear hoc hy hmy
        by_cases hk4 : y.kind = 4
        case neg =>
         have g4 : (y.kind == 4) = false := by simpa using hk4
         have g4' : (y.kind != 4) = true := by simpa using hk4
         clear hk4
         go_wp2_with fail
         go_round
         case rel => exact ⟨j + 1, tm3, gt3, by omega, by go_num, rfl, rfl, HV3.out⟩
         case measure => simp [intOf]; omega
        case pos =>
         have g4 : (y.kind == 4) = true := by rw [hk4]; rfl
         have g4' : (y.kind != 4) = false := by rw [hk4]; rfl
         have HK4 := hI_ hk4
         clear hk4
         obtain ⟨yo, hyo⟩ : ∃ yo, y.ok = yo := ⟨_, rfl⟩
         have HYO := hI_ hyo
         rw [hyo] at o7
         clear hyo
         cases yo
         case false =>
          go_wp2_with fail
          go_round
          case rel => exact ⟨j + 1, tm3, gt3, by omega, by go_num, rfl, rfl, HV3.out⟩
          case measure => simp [intOf]; omega
         case true =>
          obtain ⟨h1, h2, h3⟩ := vi_msg HV3.out HMY.out HK4.out HYO.out
          have H3 : Hid (Vi y.term y.dst Q) := hI_ h3
          replace h1 : ¬ y.term < tm3 := h1
          replace h2 : y.term = tm3 → gt3 ≠ 0 → gt3 = y.dst := h2
          have g1 : decide ((y.term : Int) < (tm3 : Int)) = false := by simp; omega
          have g1' : ¬ (y.term : Int) < (tm3 : Int) := by omega
          have g1n : tm3 ≤ y.term := by omega
          clear h3 h1
          by_cases e1 : y.term = tm3
          case neg =>
           have g2 : ((y.term : Int) == (tm3 : Int)) = false := by simp; omega
           clear h2
           go_wp2_with fail
           go_round
           case rel => exact ⟨j + 1, y.term, y.dst, by omega, by go_num, rfl, rfl, H3.out⟩
           case measure => simp [intOf]; omega
          case pos =>
           have g2 : ((y.term : Int) == (tm3 : Int)) = true := by simp; omega
           by_cases e2 : gt3 = 0
           · have g3 : ((gt3 : Int) == 0) = true := by simp; omega
             have g3' : ((gt3 : Int) != 0) = false := by simp; omega
             clear h2 e1 e2
             go_wp2_with fail
             go_round
             case rel => exact ⟨j + 1, y.term, y.dst, by omega, by go_num, rfl, rfl, H3.out⟩
             case measure => simp [intOf]; omega
           · have e3 := h2 e1 e2
             have g3 : ((gt3 : Int) == 0) = false := by simp; omega
             have g3' : ((gt3 : Int) != 0) = true := by simp; omega
             have g5 : ((gt3 : Int) == (y.dst : Int)) = true := by simp; omega
             have g5' : ((gt3 : Int) != (y.dst : Int)) = false := by simp; omega
             clear h2 e1 e2 e3
             go_wp2_with fail
             go_round
             case rel => exact ⟨j + 1, y.term, y.dst, by omega, by go_num, rfl, rfl, H3.out⟩
             case measure => simp [intOf]; omega
      · obtain rfl : j = on := by omega
        have j1 : ¬ (j : Int) < (j : Int) := by omega
        clear HOM
        go_wp2_with (first
         | (refine lBk rfl _ rfl rfl nodeT H14 rfl ?_)
         | (refine sBk rfl _ _ rfl rfl (M := ndL Q D3) rfl nodeT HN rfl rfl rfl ?_; intro w' hk5 hg; replace HM := HM.grown hg (by have := hxx.out; omega) HN.bx.ty bNd; replace HB := bGr HB hg HB.size (by have := hxx.out; omega); replace HN := hk5; clear hk5 hg))
        go_roundw
        case rel => exact ⟨k + 1, Q, D3, tm3, gt3, by omega, by go_num, rfl, rfl, HV3.out, HIDQ.out, HN, HM, hIQ, hhQ, HB⟩
        case measure => simp [intOf]; omega
   · obtain rfl : k = n := by omega
     have i1 : ¬ (k : Int) < (k : Int) := by omega
     go_wp2_with fail
     go_ret
     exact ⟨rfl, HB⟩
end Go.Proofs.YtdcpiaoadbbdoaaGreatDoor
