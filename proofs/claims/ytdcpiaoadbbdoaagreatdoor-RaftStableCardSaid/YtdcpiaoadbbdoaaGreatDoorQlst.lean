/- RaftStable: what must be kept may be written down at all times. -/
import Derived.Test.YtdcpiaoadbbdoaaGreatDoorRtake
import Derived.Test.YtdcpiaoadbbdoaaGreatDoorQla
import Derived.Test.YtdcpiaoadbbdoaaGreatDoorQfi
import Derived.Test.YtdcpiaoadbbdoaaGreatDoorMz
import Derived.Test.YtdcpiaoadbbdoaaGreatDoorZs
set_option maxRecDepth 100000
set_option maxHeartbeats 16000000
namespace Go.Proofs.YtdcpiaoadbbdoaaGreatDoor
open Go.RowKit

theorem sv_of_st {p : Pn} (h : stOk p.term p.vote p.g.base p.g.bt p.g.snap p.g.L) : Sv p := ⟨h.2.1, ⟨h.2.2.2.2.2.2.1, h.2.2.2.2.2.2.2.1, h.2.2.2.2.2.1, Lo.iff.1 h.2.2.2.2.2.2.2.2⟩⟩
theorem law_RaftStable (id : Nat) (c : Cf) (s1 s2 : Sa) (t vt : Nat) (g : Lg) (sg : Sa) (A : List Ac) (sa : Option Addr) (n sc : Nat) (hid : id < 18446744073709551616) (hvl : c.V.length ≤ 140737488351232) (hll : c.L.length ≤ 140737488351232) (hec : g.L.length ≤ sg.c) (hem : sg.c ≤ maxLen) (hel : g.L.length ≤ 140737488351232) (hsn : g.snap.size ≤ 140737488351232) (hdt : ∀ x ∈ g.L, x.d.size ≤ 140737488351232) (hal : A.length = n) (han : n ≤ 140737488351232) (w : World) (hV : Us w s1.a c.V) (hU : Us w s2.a c.L) (hE : Ents w sg.a g.L) (hA : Acs w sa A) (hOK : ∀ x ∈ A, AcOk w x) (hT : Tz w) :
 Calls Tryz.prog 7 #[.agg #[.int .u64 id, .slice s1.a c.V.length s1.c, .slice s2.a c.L.length s2.c, .int .u64 t, .int .u64 vt, .int .u64 g.base, .int .u64 g.bt, .string g.snap, .slice sg.a g.L.length sg.c, .slice sa n sc]] w (Yes w) := by
 obtain ⟨W0, x1, hW0, hx1, B0, HW, Z0⟩ := bk_new w #[.int .u64 id, .slice s1.a c.V.length s1.c, .slice s2.a c.L.length s2.c, .int .u64 t, .int .u64 vt, .int .u64 g.base, .int .u64 g.bt, .string g.snap, .slice sg.a g.L.length sg.c, .slice sa n sc] 71
 obtain ⟨W1, x4, hW1, hx4, B1, HC, Z1⟩ := bk_new W0 #[.slice s1.a c.V.length s1.c, .slice s2.a c.L.length s2.c] 25
 obtain ⟨W2, x5, hW2, hx5, B2, HS5, Z2⟩ := bk_new W1 #[.int .u64 t, .int .u64 vt, .int .u64 g.base, .int .u64 g.bt, .string g.snap, .slice sg.a g.L.length sg.c] 30
 have B0' : Below w.heap.size w W0 := hx1 ▸ B0
 have B1' : Below W0.heap.size W0 W1 := hx4 ▸ B1
 have B2' : Below W1.heap.size W1 W2 := hx5 ▸ B2
 have HW1 := HW.later B1'
 have HW2 := HW1.later B2'
 replace HC := HC.later B2'
 have HB1 := B0'.trans (B1'.mono B0'.size)
 have HB := HB1.trans (B2'.mono HB1.size)
 have hx45 := hI_ (show w.heap.size = x1 ∧ x1 < x4 ∧ x4 < x5 by have := Z0.out; have := Z1.out; omega)
 have HNN := hI_ hal
 have HAA := hI_ hA
 have HOO := hI_ hOK
 have HTZ := hI_ (show ∀ w1, Below w.heap.size w w1 → Tz w1 from fun w1 h => hT.below (h.mono hT.n))
 clear hT
 have HNW := hI_ (show ∀ w1, Below w.heap.size w w1 → Calls Tryz.prog 16 #[.int .u64 id, .agg #[.slice s1.a c.V.length s1.c, .slice s2.a c.L.length s2.c], .agg #[.int .u64 t, .int .u64 vt, .int .u64 g.base, .int .u64 g.bt, .string g.snap, .slice sg.a g.L.length sg.c]] w1 (NwP w1.heap.size w1 id c t vt g) from fun w1 h => pNew_any id c s1 s2 sg t vt g hid hvl hll hel hec hem hsn hdt w1.heap.size w1 (Nat.le_refl _) (hV.later h) (hU.later h) (hE.later h))
 clear hV hU hE hA hOK B0 B1 B2 B0' B1' B2' HB1 hal
 obtain ⟨P0, hP0⟩ : ∃ P0, newP id c t vt g = P0 := ⟨_, rfl⟩
 have HP0 := hI_ hP0
 go_enter Tryz.func7, Tryz.ntmps7
 go_wp2_with (first
  | (refine lSb rfl _ rfl rfl [.slice s1.a c.V.length s1.c, .slice s2.a c.L.length s2.c] confT HW rfl rfl ?_)
  | (refine lSb rfl _ rfl rfl [.int .u64 t, .int .u64 vt, .int .u64 g.base, .int .u64 g.bt, .string g.snap, .slice sg.a g.L.length sg.c] stabT HW1 rfl rfl ?_)
  | (refine lCc rfl _ rfl rfl (by first | exact ocU | exact ocAc) HW rfl ?_)
  | (refine lCc rfl _ rfl rfl (by first | exact ocU | exact ocAc) HW2 rfl ?_))
 refine (pShown_any _).mono ?_
 rintro e w3 ⟨rfl, hb⟩
 replace HB := HB.trans (hb.mono HB.size)
 replace HC := HC.later hb
 replace HS5 := HS5.later hb
 clear hb HW HW1 HW2
 obtain ⟨K, hK⟩ : ∃ K, K = w3.heap.size := ⟨_, rfl⟩
 have HKK := hI_ (show w.heap.size ≤ K by rw [hK]; exact HB.size)
 go_wp2_with (first
  | (refine lBk rfl _ rfl rfl confT HC rfl ?_)
  | (refine lBk rfl _ rfl rfl stabT HS5 rfl ?_))
 have HNX := hI_ (HNW.out w3 HB)
 rw [← hK] at HNX
 refine HNX.out.mono ?_
 rintro e w4 ⟨hn, hb⟩
 have hKs := hI_ (show K ≤ w4.heap.size by rw [hK]; exact hb.size)
 replace HB := HB.trans (hb.mono HB.size)
 replace HS5 := HS5.later hb
 clear hb HNW HC hK
 obtain ⟨w8, x8, hw8, hx8, B8, HN, Z8⟩ := bk_new w4 znA 34
 have B8' : Below w4.heap.size w4 w8 := hx8 ▸ B8
 have hxx := hI_ (show w.heap.size ≤ x8 ∧ K ≤ x8 ∧ x5 < x8 by have := hKs.out; have := HKK.out; have := HS5.lt; omega)
 have HB4 := hI_ HB.size
 replace HB := HB.trans (B8'.mono HB.size)
 replace HS5 := HS5.later B8'
 unfold znA at hw8
 clear B8
 rcases hn with ⟨hok, D0, rfl, HM⟩ | ⟨_, rfl⟩
 case inr =>
  go_wp2_with (first
   | (refine sBk rfl _ _ rfl rfl (M := znA.toList) rfl nodeT HN rfl rfl rfl ?_; intro w' hk5 hg; replace HB := bGr HB hg HB.size (by have := hxx.out; omega); replace HN := hk5; clear hk5 hg))
  go_ret
  exact ⟨rfl, HB⟩
 case inl =>
  replace HM := HM.later B8'
  clear B8'
  rw [HP0.out] at HM
  have hiv : Iv P0 := by rw [← HP0.out]; exact iv_new hok.1 hok.2.1 hok.2.2
  have hhd : P0.heard ≤ 10 := by rw [← HP0.out]; show (0 : Int) ≤ 10; decide
  rw [HP0.out]
  have hsv : Sv P0 := sv_of_st (by rw [← HP0.out]; exact hok.2.2)
  clear hok
  go_wp2_with (first
   | (refine sBk rfl _ _ rfl rfl (M := ndL P0 D0) rfl nodeT HN rfl rfl rfl ?_; intro w' hk5 hg; replace HM := HM.grown hg (by have := hxx.out; omega) HN.bx.ty bNd; replace HB := bGr HB hg HB.size (by have := hxx.out; omega); replace HN := hk5; clear hk5 hg))
  clear hw8 HS5
  go_loopw [10] (fun i wr => ∃ (k : Nat) (P : Pn) (D : Ad), k ≤ n ∧ i = .int .i64 k ∧ Bk wr x8 34 (ndL P D) ∧ NdM K wr P D ∧ Iv P ∧ P.heard ≤ 10 ∧ Sv P ∧ Below w.heap.size w wr) (fun i _ => n - (intOf i).toNat)
  case atStart => exact ⟨0, P0, D0, Nat.zero_le _, rfl, HN, HM, hiv, hhd, hsv, HB⟩
  case round =>
   clear HN HM hiv hhd hsv HB
   obtain ⟨k, P, D, hk, rfl, HN, HM, hI, hh, hsv, HB⟩ := hrel
   by_cases hlt : k < n
   · obtain ⟨x, hx⟩ : ∃ x, A[k]? = some x := ⟨_, List.getElem?_eq_getElem (by rw [HNN.out]; exact hlt)⟩
     have hok := HOO.out x (List.mem_of_getElem? hx)
     have i0 : (0 : Int) ≤ (k : Int) := by omega
     have i1 : (k : Int) < (n : Int) := by omega
     obtain ⟨b, off, rfl, hb0, hc0⟩ := HAA.out k x hx
     have HAC := hI_ (show ∀ w1, Below w.heap.size w w1 → ∀ j u, (acC x)[j]? = some u → w1.cell? ⟨b, off + k * 15 + j, none⟩ = some u from fun w1 h j u hu => (h.cell (p := ⟨b, off + k * 15 + j, none⟩) hb0).trans (hc0 j u hu))
     have HEX := hI_ (show ∀ w1, Below w.heap.size w w1 → Ents w1 x.m.at_ x.m.es from fun w1 h => hok.E.later h)
     clear hx hc0
     have hes : x.m.es.length ≤ 8000000000000 := by have := hok.m.es; omega
     obtain ⟨Q, hQ⟩ : ∃ Q, doesP P x = Q := ⟨_, rfl⟩
     have HQ := hI_ hQ
     have hIQ : Iv Q := by rw [← hQ]; exact iv_does hI hok.m
     have hhQ : Q.heard ≤ 10 := by rw [← hQ]; exact hd_does hh x
     have hsd : Sv Q ∨ (x.k = 2 ∧ ¬ Ft x.m P.g) := by rw [← hQ]; exact sv_does hsv hI x
     have HSD := hI_ hsd
     clear hQ hsd
     obtain ⟨w11, x11, hw11, hx11, B11, HT, Z11⟩ := bk_new wr #[.int .u64 P.term, .int .u64 P.vote, .int .u64 P.g.base, .int .u64 P.g.bt, .string P.g.snap, .slice D.e.a P.g.L.length D.e.c] 30
     have B11' : Below wr.heap.size wr w11 := hx11 ▸ B11
     have hxt := hI_ (show x8 < x11 ∧ w.heap.size ≤ x11 from ⟨hx11 ▸ HN.lt, hx11 ▸ HB.size⟩)
     have HN0 := HN
     replace HN := HN.later B11'
     replace HM := HM.later B11'
     replace HB := HB.trans (B11'.mono HB.size)
     clear B11 B11'
     go_wp2_with (first
      | (refine lSb rfl _ rfl rfl [.int .u64 P.term, .int .u64 P.vote, .int .u64 P.g.base, .int .u64 P.g.bt, .string P.g.snap, .slice D.e.a P.g.L.length D.e.c] stabT HN0 rfl rfl ?_))
     clear HN0
     refine wp_region_z (S := fun w' => Bk w' x8 34 (ndL P D) ∧ Bk w' x11 30 [.int .u64 P.term, .int .u64 P.vote, .int .u64 P.g.base, .int .u64 P.g.bt, .string P.g.snap, .slice D.e.a P.g.L.length D.e.c] ∧ NdM K w' P D ∧ Below w.heap.size w w') 6 (by kernel_rfl) (⟨HN.later ((Below.refl _ _).drew), HT.later ((Below.refl _ _).drew), HM.later ((Below.refl _ _).drew), HB.drew⟩) (fun HS => ?_)
     refine anyZ_take (i := 0) (v := (.agg (ndL P D).toArray)) rfl (by kernel_rfl) rfl (by kernel_rfl) (by kernel_rfl) (by kernel_rfl) (fun _ _ _ h => h) (Or.inl ⟨by rfl, ?hy0⟩) HS ?_
     case hy0 => (intro _ hSw; exact eLb _ rfl rfl nodeT hSw.1 rfl)
     try simp only [ly, Act.put]
     refine anyZ_take (i := 1) (v := ?_) rfl (by kernel_rfl) rfl (by kernel_rfl) (by kernel_rfl) (by kernel_rfl) (fun _ _ _ h => h) (Or.inl ⟨by rfl, ?hy1⟩) HS ?_
     case hy1 => (intro _ hSw; go_simp; (try with_reducible rfl))
     try simp only [ly, Act.put]
     refine anyZ_take (i := 2) (v := ?_) rfl (by kernel_rfl) rfl (by kernel_rfl) (by kernel_rfl) (by kernel_rfl) (fun _ _ _ h => h) (Or.inl ⟨by rfl, ?hy2⟩) HS ?_
     case hy2 => (intro _ hSw; go_simp; (try with_reducible rfl))
     try simp only [ly, Act.put]
     refine anyZ_take (i := 3) (v := ?_) rfl (by kernel_rfl) rfl (by kernel_rfl) (by kernel_rfl) (by kernel_rfl) (fun _ _ _ h => h) (Or.inl ⟨by rfl, ?hy3⟩) HS ?_
     case hy3 => (intro _ hSw; go_simp; (try with_reducible rfl))
     try simp only [ly, Act.put]
     refine anyZ_take (i := 4) (v := (.agg #[.int .i64 x.k, .int .u64 x.n, .int .i64 x.m.kind, .int .u64 x.m.fr, .int .u64 x.m.dst, .int .u64 x.m.term, .int .u64 x.m.i, .int .u64 x.m.lt, .int .u64 x.m.commit, .bool x.m.ok, .slice x.m.at_ x.m.es.length x.m.cap, .string x.m.snap, .string x.s, .int .i64 x.xk, .int .u64 x.xi])) rfl (by kernel_rfl) rfl (by kernel_rfl) (by kernel_rfl) (by kernel_rfl) (fun _ _ _ h => h) (Or.inl ⟨by rfl, ?hy4⟩) HS ?_
     case hy4 => (intro _ hSw; exact exec_load_el _ rfl rfl (acC x) actT rfl (HAC.out _ hSw.2.2.2))
     try simp only [ly, Act.put]
     refine anyZ_one (i := 5) (by kernel_rfl) rfl (fun KK hK => ?_)
     go_simp
     refine (pDoes_any P D hI hh x hok.n hok.m hok.s hok.xi hes K _ (by have := hxx.out; have := HS.1.lt; omega) (HTZ.out _ HS.2.2.2) HS.2.2.1 (HEX.out _ HS.2.2.2)).mono ?_
     rw [HQ.out]
     rintro e w5 ⟨D3, rfl, hm3, hb⟩
     have HM3 := hm3
     clear hm3
     go_wp2_with fail
     refine hK.out _ _ ⟨HS.1.later hb, HS.2.1.later hb, HS.2.2.1.later hb, HS.2.2.2.trans (hb.mono HS.2.2.2.size)⟩ (fun HS => ?_)
     clear hK
     try simp only [ly, Act.put]
     refine anyZ_last (by kernel_rfl) rfl (by kernel_rfl) (fun KK hK => ?_)
     rw [if_pos (by rfl)]
     refine wSb _ _ rfl rfl (M := ndL Q D3) rfl nodeT HS.1 rfl rfl rfl ?_
     intro w' hk5 hg
     have HT := HS.2.1.grown hg (by have := hxt.out; omega)
     have HM := HM3.grown hg (by have := hxx.out; omega) HS.1.bx.ty bNd
     have HB := bGr HS.2.2.2 hg HS.2.2.2.size (by have := hxx.out; omega)
     have HN := hk5
     clear hk5 hg
     refine hK.out _ _ ?_
     clear hK
     try simp only [ly, Act.put]
     go_wp2_with (first
      | (refine lSb rfl _ rfl rfl [.int .u64 Q.term, .int .u64 Q.vote, .int .u64 Q.g.base, .int .u64 Q.g.bt, .string Q.g.snap, .slice D3.e.a Q.g.L.length D3.e.c] stabT HN rfl rfl ?_))
     refine (refMay_st Q.term Q.vote Q.g.base Q.g.bt Q.g.L.length D3.e.c Q.g.snap D3.e.a Q.g.L rfl (by have := hIQ.g.len; omega) hIQ.g.snap (fun y hy => (hIQ.g.data y hy).2) _ HM.e).mono ?_
     rintro e w6 ⟨⟨bm, rfl, hbi⟩, hb⟩
     replace HB := HB.trans (hb.mono HB.size)
     replace HN := HN.later hb
     replace HT := HT.later hb
     replace HM := HM.later hb
     clear hb
     cases bm
     case true =>
      have hsQ := sv_of_st (hbi.1 rfl)
      clear hbi
      go_wp2_with fail
      go_roundw
      case rel => exact ⟨k + 1, Q, D3, by omega, by go_num, HN, HM, hIQ, hhQ, hsQ, HB⟩
      case measure => simp [intOf]; omega
     case false =>
      have hns : ¬ Sv Q := fun h => absurd (hbi.2 (h.st hIQ)) (by decide)
      obtain ⟨hk2, hnf⟩ := HSD.out.resolve_left hns
      have HNF := hI_ hnf
      have gk2 : (x.k == 2) = true := by rw [hk2]; rfl
      clear hbi hns hk2 hnf
      go_wp2_with fail
      refine wp_region_held_drew (S := fun w' => Bk w' x11 30 [.int .u64 P.term, .int .u64 P.vote, .int .u64 P.g.base, .int .u64 P.g.bt, .string P.g.snap, .slice D.e.a P.g.L.length D.e.c] ∧ Below w.heap.size w w') (by kernel_rfl) (⟨HT.later ((Below.refl _ _).drew), HB.drew⟩) (fun HS => ?_)
      refine tkp (i := 0) rfl HS ?_
      try simp only [ly, Act.put]
      refine tkp (i := 1) rfl HS ?_
      try simp only [ly, Act.put]
      refine tkp (i := 2) rfl HS ?_
      try simp only [ly, Act.put]
      refine tkp (i := 3) rfl HS ?_
      refine tkh (i := 4) (v := (.agg #[.int .i64 x.m.kind, .int .u64 x.m.fr, .int .u64 x.m.dst, .int .u64 x.m.term, .int .u64 x.m.i, .int .u64 x.m.lt, .int .u64 x.m.commit, .bool x.m.ok, .slice x.m.at_ x.m.es.length x.m.cap, .string x.m.snap])) rfl ⟨by rfl, fun _ hSw => exec_load_el _ rfl rfl (mgC x.m) messT rfl (act_sub x 2 10 _ rfl rfl (HAC.out _ hSw.2))⟩ HS ?_
      refine tkh (i := 5) (v := (.agg #[.int .u64 P.term, .int .u64 P.vote, .int .u64 P.g.base, .int .u64 P.g.bt, .string P.g.snap, .slice D.e.a P.g.L.length D.e.c])) rfl ⟨by rfl, fun _ hSw => eLb _ rfl rfl stabT hSw.1 rfl⟩ HS ?_
      try simp only [ly, Act.put]
      refine onh (r := 6) (by kernel_rfl) rfl (fun KK hK => ?_)
      go_simp
      refine (rFits_any x.m.kind x.m.fr x.m.dst x.m.term x.m.i x.m.lt x.m.commit x.m.ok x.m.es x.m.snap x.m.at_ x.m.cap (by omega) (fun y hy => (hok.m.data y hy).2) P.term P.vote P.g.base P.g.bt P.g.snap D.e.a P.g.L.length D.e.c _ (HEX.out _ HS.2)).mono ?_
      rintro e w7 ⟨bf, rfl, hbf, hb⟩
      obtain rfl : bf = false := by
       cases bf with
       | false => rfl
       | true =>
        obtain ⟨y1, y2⟩ := hbf rfl
        exact absurd (ft_of y1 y2) HNF.out
      go_wp2_with fail
      refine hK.out _ _ ⟨HS.1.later hb, HS.2.trans (hb.mono HS.2.size)⟩ (fun HS => ?_)
      clear hK
      try simp only [ly, Act.put]
      refine tkp (i := 7) rfl HS ?_
      try simp only [ly, Act.put]
      refine wpAnyH_done (by kernel_rfl) ?_ _
      have p0 := HAC.out _ HS.2 0 _ rfl
      rw [Nat.add_zero] at p0
      go_wp2_with fail
      go_ret
      exact ⟨rfl, HS.2⟩
   · obtain rfl : k = n := by omega
     have i1 : ¬ (k : Int) < (k : Int) := by omega
     go_wp2_with fail
     go_ret
     exact ⟨rfl, HB⟩
end Go.Proofs.YtdcpiaoadbbdoaaGreatDoor
