/- RaftKeeps: what a node may never lose. -/
import Derived.Test.YtdcpiaoadbbdoaaGreatDoorRtake
import Derived.Test.YtdcpiaoadbbdoaaGreatDoorQla
import Derived.Test.YtdcpiaoadbbdoaaGreatDoorZk
import Derived.Test.YtdcpiaoadbbdoaaGreatDoorQz
set_option maxRecDepth 100000
set_option maxHeartbeats 16000000
namespace Go.Proofs.YtdcpiaoadbbdoaaGreatDoor
open Go.RowKit

theorem kc_at {P Q : Pn} (h : Kc P Q) {j : Nat} {e : En} (he : P.g.L[j]? = some e) (hs : P.g.base + j + 1 ≤ P.commit ∨ (P.role = 3 ∧ Q.role = 3)) (hb : ¬ P.g.base + j + 1 < Q.g.base) :
 tAt Q.g.base Q.g.bt Q.g.L (P.g.base + j + 1) = (e.t, true) ∧ (Q.g.base < P.g.base + j + 1 → Q.g.L[P.g.base + j + 1 - Q.g.base - 1]? = some e) :=
 (h.kept j e he hs).resolve_left hb
theorem law_RaftKeeps (id : Nat) (c : Cf) (s1 s2 : Sa) (t vt : Nat) (g : Lg) (sg : Sa) (A : List Ac) (sa : Option Addr) (n sc : Nat) (hid : id < 18446744073709551616) (hvl : c.V.length ≤ 140737488351232) (hll : c.L.length ≤ 140737488351232) (hec : g.L.length ≤ sg.c) (hem : sg.c ≤ maxLen) (hel : g.L.length ≤ 140737488351232) (hsn : g.snap.size ≤ 140737488351232) (hdt : ∀ x ∈ g.L, x.d.size ≤ 140737488351232) (hal : A.length = n) (han : n ≤ 140737488351232) (w : World) (hV : Us w s1.a c.V) (hU : Us w s2.a c.L) (hE : Ents w sg.a g.L) (hA : Acs w sa A) (hOK : ∀ x ∈ A, AcOk w x) (hT : Tz w) :
 Calls Tryz.prog 5 #[.agg #[.int .u64 id, .slice s1.a c.V.length s1.c, .slice s2.a c.L.length s2.c, .int .u64 t, .int .u64 vt, .int .u64 g.base, .int .u64 g.bt, .string g.snap, .slice sg.a g.L.length sg.c, .slice sa n sc]] w (Yes w) := by
 obtain ⟨W0, x1, hW0, hx1, B0, HW, Z0⟩ := bk_new w #[.int .u64 id, .slice s1.a c.V.length s1.c, .slice s2.a c.L.length s2.c, .int .u64 t, .int .u64 vt, .int .u64 g.base, .int .u64 g.bt, .string g.snap, .slice sg.a g.L.length sg.c, .slice sa n sc] 55
 obtain ⟨W1, x4, hW1, hx4, B1, HC, Z1⟩ := bk_new W0 #[.slice s1.a c.V.length s1.c, .slice s2.a c.L.length s2.c] 25
 obtain ⟨W2, x5, hW2, hx5, B2, HS5, Z2⟩ := bk_new W1 #[.int .u64 t, .int .u64 vt, .int .u64 g.base, .int .u64 g.bt, .string g.snap, .slice sg.a g.L.length sg.c] 30
 have B0' : Below w.heap.size w W0 := hx1 ▸ B0
 have B1' : Below W0.heap.size W0 W1 := hx4 ▸ B1
 have B2' : Below W1.heap.size W1 W2 := hx5 ▸ B2
 have HW1 := HW.later B1'
 have HW2 := HW1.later B2'
 replace HC := HC.later B2'
 have HB1 := B0'.trans (B1'.mono B0'.size)
 have HB := HB1.trans (B2'.mono HB1.size)
 have hx45 := hI_ (show w.heap.size = x1 ∧ x1 < x4 ∧ x4 < x5 by have := Z0.out; have := Z1.out; omega)
 have HNN := hI_ hal
 have HAA := hI_ hA
 have HOO := hI_ hOK
 have HTZ := hI_ (show ∀ w1, Below w.heap.size w w1 → Tz w1 from fun w1 h => hT.below (h.mono hT.n))
 clear hT
 have HNW := hI_ (show ∀ w1, Below w.heap.size w w1 → Calls Tryz.prog 16 #[.int .u64 id, .agg #[.slice s1.a c.V.length s1.c, .slice s2.a c.L.length s2.c], .agg #[.int .u64 t, .int .u64 vt, .int .u64 g.base, .int .u64 g.bt, .string g.snap, .slice sg.a g.L.length sg.c]] w1 (NwP w1.heap.size w1 id c t vt g) from fun w1 h => pNew_any id c s1 s2 sg t vt g hid hvl hll hel hec hem hsn hdt w1.heap.size w1 (Nat.le_refl _) (hV.later h) (hU.later h) (hE.later h))
 clear hV hU hE hA hOK B0 B1 B2 B0' B1' B2' HB1 hal
 obtain ⟨P0, hP0⟩ : ∃ P0, newP id c t vt g = P0 := ⟨_, rfl⟩
 have HP0 := hI_ hP0
 go_enter Tryz.func5, Tryz.ntmps5
 go_wp2_with (first
  | (refine lSb rfl _ rfl rfl [.slice s1.a c.V.length s1.c, .slice s2.a c.L.length s2.c] confT HW rfl rfl ?_)
  | (refine lSb rfl _ rfl rfl [.int .u64 t, .int .u64 vt, .int .u64 g.base, .int .u64 g.bt, .string g.snap, .slice sg.a g.L.length sg.c] stabT HW1 rfl rfl ?_)
  | (refine lCc rfl _ rfl rfl (by first | exact ocU | exact ocAc) HW rfl ?_)
  | (refine lCc rfl _ rfl rfl (by first | exact ocU | exact ocAc) HW2 rfl ?_))
 refine (pShown_any _).mono ?_
 rintro e w3 ⟨rfl, hb⟩
 replace HB := HB.trans (hb.mono HB.size)
 replace HC := HC.later hb
 replace HS5 := HS5.later hb
 clear hb HW HW1 HW2
 obtain ⟨K, hK⟩ : ∃ K, K = w3.heap.size := ⟨_, rfl⟩
 have HKK := hI_ (show w.heap.size ≤ K by rw [hK]; exact HB.size)
 go_wp2_with (first
  | (refine lBk rfl _ rfl rfl confT HC rfl ?_)
  | (refine lBk rfl _ rfl rfl stabT HS5 rfl ?_))
 have HNX := hI_ (HNW.out w3 HB)
 rw [← hK] at HNX
 refine HNX.out.mono ?_
 rintro e w4 ⟨hn, hb⟩
 have hKs := hI_ (show K ≤ w4.heap.size by rw [hK]; exact hb.size)
 replace HB := HB.trans (hb.mono HB.size)
 replace HS5 := HS5.later hb
 clear hb HNW HC hK
 obtain ⟨w8, x8, hw8, hx8, B8, HN, Z8⟩ := bk_new w4 znA 34
 have B8' : Below w4.heap.size w4 w8 := hx8 ▸ B8
 have hxx := hI_ (show w.heap.size ≤ x8 ∧ K ≤ x8 ∧ x5 < x8 by have := hKs.out; have := HKK.out; have := HS5.lt; omega)
 have HB4 := hI_ HB.size
 replace HB := HB.trans (B8'.mono HB.size)
 replace HS5 := HS5.later B8'
 unfold znA at hw8
 clear B8
 rcases hn with ⟨hok, D0, rfl, HM⟩ | ⟨_, rfl⟩
 case inr =>
  go_wp2_with (first
   | (refine sBk rfl _ _ rfl rfl (M := znA.toList) rfl nodeT HN rfl rfl rfl ?_; intro w' hk5 hg; replace HB := bGr HB hg HB.size (by have := hxx.out; omega); replace HN := hk5; clear hk5 hg))
  go_ret
  exact ⟨rfl, HB⟩
 case inl =>
  replace HM := HM.later B8'
  clear B8'
  rw [HP0.out] at HM
  have hiv : Iv P0 := by rw [← HP0.out]; exact iv_new hok.1 hok.2.1 hok.2.2
  have hhd : P0.heard ≤ 10 := by rw [← HP0.out]; show (0 : Int) ≤ 10; decide
  rw [HP0.out]
  clear hok
  go_wp2_with (first
   | (refine sBk rfl _ _ rfl rfl (M := ndL P0 D0) rfl nodeT HN rfl rfl rfl ?_; intro w' hk5 hg; replace HM := HM.grown hg (by have := hxx.out; omega) HN.bx.ty bNd; replace HB := bGr HB hg HB.size (by have := hxx.out; omega); replace HN := hk5; clear hk5 hg))
  clear hw8 HS5
  go_loopw [10] (fun i wr => ∃ (k : Nat) (P : Pn) (D : Ad), k ≤ n ∧ i = .int .i64 k ∧ Bk wr x8 34 (ndL P D) ∧ NdM K wr P D ∧ Iv P ∧ P.heard ≤ 10 ∧ Below w.heap.size w wr) (fun i _ => n - (intOf i).toNat)
  case atStart => exact ⟨0, P0, D0, Nat.zero_le _, rfl, HN, HM, hiv, hhd, HB⟩
  case round =>
   clear HN HM hiv hhd HB
   obtain ⟨k, P, D, hk, rfl, HN, HM, hI, hh, HB⟩ := hrel
   by_cases hlt : k < n
   · obtain ⟨x, hx⟩ : ∃ x, A[k]? = some x := ⟨_, List.getElem?_eq_getElem (by rw [HNN.out]; exact hlt)⟩
     have hok := HOO.out x (List.mem_of_getElem? hx)
     have i0 : (0 : Int) ≤ (k : Int) := by omega
     have i1 : (k : Int) < (n : Int) := by omega
     obtain ⟨b, off, rfl, hb0, hc0⟩ := HAA.out k x hx
     have HAC := hI_ (show ∀ w1, Below w.heap.size w w1 → ∀ j u, (acC x)[j]? = some u → w1.cell? ⟨b, off + k * 15 + j, none⟩ = some u from fun w1 h j u hu => (h.cell (p := ⟨b, off + k * 15 + j, none⟩) hb0).trans (hc0 j u hu))
     have HEX := hI_ (show ∀ w1, Below w.heap.size w w1 → Ents w1 x.m.at_ x.m.es from fun w1 h => hok.E.later h)
     clear hx hc0
     have hes : x.m.es.length ≤ 8000000000000 := by have := hok.m.es; omega
     obtain ⟨Q, hQ⟩ : ∃ Q, doesP P x = Q := ⟨_, rfl⟩
     have HQ := hI_ hQ
     have hIQ : Iv Q := by rw [← hQ]; exact iv_does hI hok.m
     have hhQ : Q.heard ≤ 10 := by rw [← hQ]; exact hd_does hh x
     have hb1 : P.role = 1 → P.term + 1 < 18446744073709551616 := fun _ => by have := hI.term; omega
     have htv : Tv P Q := by rw [← hQ]; exact tv_does hb1 x
     have hkc : Kc P Q := by rw [← hQ]; exact kc_does P x
     have HTV := hI_ htv
     have HKC := hI_ hkc
     clear hQ hb1 htv hkc
     go_upto_region 12 with fail
     go_cut [11] (fun mv wx => ∃ (x11 : Nat) (D3 : Ad), mv = .pointer (some ⟨x11, 0, none⟩) ∧ x8 < x11 ∧ w.heap.size ≤ x11 ∧ Bk wx x8 34 (ndL P D) ∧ Bk wx x11 34 (ndL Q D3) ∧ NdM K wx P D ∧ NdM K wx Q D3 ∧ Below w.heap.size w wx)
     case first =>
      refine wp_region_held_drew (S := fun w' => Bk w' x8 34 (ndL P D) ∧ NdM K w' P D ∧ Below w.heap.size w w') (by kernel_rfl) (⟨HN.later ((Below.refl _ _).drew), HM.later ((Below.refl _ _).drew), HB.drew⟩) (fun HS => ?_)
      refine tkh (i := 0) (v := (.agg (ndL P D).toArray)) rfl ⟨by rfl, fun _ hSw => eLb _ rfl rfl nodeT hSw.1 rfl⟩ HS ?_
      try simp only [ly, Act.put]
      refine tkp (i := 1) rfl HS ?_
      try simp only [ly, Act.put]
      refine tkp (i := 2) rfl HS ?_
      try simp only [ly, Act.put]
      refine tkp (i := 3) rfl HS ?_
      refine tkh (i := 4) (v := (.agg #[.int .i64 x.k, .int .u64 x.n, .int .i64 x.m.kind, .int .u64 x.m.fr, .int .u64 x.m.dst, .int .u64 x.m.term, .int .u64 x.m.i, .int .u64 x.m.lt, .int .u64 x.m.commit, .bool x.m.ok, .slice x.m.at_ x.m.es.length x.m.cap, .string x.m.snap, .string x.s, .int .i64 x.xk, .int .u64 x.xi])) rfl ⟨by rfl, fun _ hSw => exec_load_el _ rfl rfl (acC x) actT rfl (HAC.out _ hSw.2.2)⟩ HS ?_
      try simp only [ly, Act.put]
      refine wpAnyH_ready (rs := [5, 6]) (by kernel_rfl) (by simp) ?_
      refine AllReadyH.cons rfl (fun KK hK => ?_) (AllReadyH.cons rfl (fun KK hK => ?_) AllReadyH.nil)
      · go_simp
        refine (pDoes_any P D hI hh x hok.n hok.m hok.s hok.xi hes K _ (by have := hxx.out; have := HS.1.lt; omega) (HTZ.out _ HS.2.2) HS.2.1 (HEX.out _ HS.2.2)).mono ?_
        rw [HQ.out]
        rintro e w5 ⟨D3, rfl, hm3, hb⟩
        have HM3 := hm3
        clear hm3
        (try replace HX := HX.later hb)
        go_wp2_with fail
        refine hK.out _ _ ⟨HS.1.later hb, HS.2.1.later hb, HS.2.2.trans (hb.mono HS.2.2.size)⟩ (fun HS => ?_)
        clear hK
        try simp only [ly, Act.put]
        refine onh (r := 6) (by kernel_rfl) rfl (fun KK hK => ?_)
        obtain ⟨wa, xa, hwa, hxa, BA, HX, ZA⟩ := bk_at HS.2.2 #[.int .u64 0, .slice none 0 0, .slice none 0 0, .int .u64 0, .int .u64 0, .int .u64 0, .int .u64 0, .string ⟨#[]⟩, .slice none 0 0, .int .i64 0, .int .u64 0, .int .u64 0, .slice none 0 0, .slice none 0 0, .slice none 0 0, .int .i64 0, .int .i64 0, .int .i64 0, .int .i64 0] 34
        have hxy := hI_ (show x8 < xa ∧ w.heap.size ≤ xa from ⟨hxa ▸ HS.1.lt, hxa ▸ HS.2.2.size⟩)
        (try replace HM3 := HM3.later BA)
        go_simp
        clear hwa hxa
        refine hK.out _ _ ⟨HS.1.later BA, HS.2.1.later BA, HS.2.2.trans (BA.mono HS.2.2.size)⟩ (fun HS => ?_)
        clear hK
        try simp only [ly, Act.put]
        refine onh (r := 7) (by kernel_rfl) rfl (fun KK hK => ?_)
        rw [if_pos (by rfl)]
        refine wSb _ _ rfl rfl (M := ndL Q D3) rfl nodeT HX rfl rfl rfl ?_
        intro w' hk5 hg
        have HS9 := And.intro (HS.1.grown hg (by have := hxy.out; omega)) (And.intro (HS.2.1.grown hg (by have := hxy.out; have := hxx.out; omega) HX.bx.ty bNd) (bGr HS.2.2 hg HS.2.2.size (by have := hxy.out; omega)))
        replace HM3 := HM3.grown hg (by have := hxy.out; have := hxx.out; omega) HX.bx.ty bNd
        replace HX := hk5
        clear hk5 hg
        refine hK.out _ _ HS9 (fun HS => ?_)
        clear HS9
        clear hK
        try simp only [ly, Act.put]
        refine wpAnyH_done (by kernel_rfl) ?_ _
        go_wp2_with fail
        go_meet
        exact ⟨xa, D3, rfl, hxy.out.1, hxy.out.2, HS.1, HX, HS.2.1, HM3, HS.2.2⟩
      · obtain ⟨wa, xa, hwa, hxa, BA, HX, ZA⟩ := bk_at HS.2.2 #[.int .u64 0, .slice none 0 0, .slice none 0 0, .int .u64 0, .int .u64 0, .int .u64 0, .int .u64 0, .string ⟨#[]⟩, .slice none 0 0, .int .i64 0, .int .u64 0, .int .u64 0, .slice none 0 0, .slice none 0 0, .slice none 0 0, .int .i64 0, .int .i64 0, .int .i64 0, .int .i64 0] 34
        have hxy := hI_ (show x8 < xa ∧ w.heap.size ≤ xa from ⟨hxa ▸ HS.1.lt, hxa ▸ HS.2.2.size⟩)
        (try replace HM3 := HM3.later BA)
        go_simp
        clear hwa hxa
        refine hK.out _ _ ⟨HS.1.later BA, HS.2.1.later BA, HS.2.2.trans (BA.mono HS.2.2.size)⟩ (fun HS => ?_)
        clear hK
        try simp only [ly, Act.put]
        refine onh (r := 5) (by kernel_rfl) rfl (fun KK hK => ?_)
        go_simp
        refine (pDoes_any P D hI hh x hok.n hok.m hok.s hok.xi hes K _ (by have := hxx.out; have := HS.1.lt; omega) (HTZ.out _ HS.2.2) HS.2.1 (HEX.out _ HS.2.2)).mono ?_
        rw [HQ.out]
        rintro e w5 ⟨D3, rfl, hm3, hb⟩
        have HM3 := hm3
        clear hm3
        (try replace HX := HX.later hb)
        go_wp2_with fail
        refine hK.out _ _ ⟨HS.1.later hb, HS.2.1.later hb, HS.2.2.trans (hb.mono HS.2.2.size)⟩ (fun HS => ?_)
        clear hK
        try simp only [ly, Act.put]
        refine onh (r := 7) (by kernel_rfl) rfl (fun KK hK => ?_)
        rw [if_pos (by rfl)]
        refine wSb _ _ rfl rfl (M := ndL Q D3) rfl nodeT HX rfl rfl rfl ?_
        intro w' hk5 hg
        have HS9 := And.intro (HS.1.grown hg (by have := hxy.out; omega)) (And.intro (HS.2.1.grown hg (by have := hxy.out; have := hxx.out; omega) HX.bx.ty bNd) (bGr HS.2.2 hg HS.2.2.size (by have := hxy.out; omega)))
        replace HM3 := HM3.grown hg (by have := hxy.out; have := hxx.out; omega) HX.bx.ty bNd
        replace HX := hk5
        clear hk5 hg
        refine hK.out _ _ HS9 (fun HS => ?_)
        clear HS9
        clear hK
        try simp only [ly, Act.put]
        refine wpAnyH_done (by kernel_rfl) ?_ _
        go_wp2_with fail
        go_meet
        exact ⟨xa, D3, rfl, hxy.out.1, hxy.out.2, HS.1, HX, HS.2.1, HM3, HS.2.2⟩
     clear HN HM HB
     obtain ⟨x11, D3, rfl, hx1, hx2, HN, H11, HM, HMQ, HB⟩ := hcut
     have n0 := HN.bx.c 0 _ rfl
     have n3 := HN.bx.c 3 _ rfl
     have n4 := HN.bx.c 4 _ rfl
     have n11 := HN.bx.c 11 _ rfl
     have m0 := H11.bx.c 0 _ rfl
     have m3 := H11.bx.c 3 _ rfl
     have m4 := H11.bx.c 4 _ rfl
     have m11 := H11.bx.c 11 _ rfl
     go_upto_region 13 with fail
     go_cut [98] (fun bv wx => bv = .bool false ∧ Bk wx x8 34 (ndL P D) ∧ Bk wx x11 34 (ndL Q D3) ∧ NdM K wx P D ∧ NdM K wx Q D3 ∧ Below w.heap.size w wx)
     case first =>
      have a1 := HTV.out.term
      have a2 := HTV.out.id
      have a3 := HKC.out.commit
      have g1 : decide ((Q.term : Int) < (P.term : Int)) = false := by simp; omega
      have g1' : ¬ (Q.term : Int) < (P.term : Int) := by omega
      have g2 : decide ((Q.commit : Int) < (P.commit : Int)) = false := by simp; omega
      have g2' : ¬ (Q.commit : Int) < (P.commit : Int) := by omega
      have g3 : ((Q.id : Int) == (P.id : Int)) = true := by simp; omega
      have g3' : ((Q.id : Int) != (P.id : Int)) = false := by simp; omega
      have b1 : P.term ≤ Q.term := a1
      have b2 : P.commit ≤ Q.commit := a3
      clear a1 a2 a3
      by_cases h1 : Q.term = P.term
      · have g4 : ((Q.term : Int) == (P.term : Int)) = true := by simp; omega
        by_cases h2 : P.vote = 0
        · have g5 : ((P.vote : Int) == 0) = true := by simp; omega
          have g5' : ((P.vote : Int) != 0) = false := by simp; omega
          clear h1 h2
          go_wp2_with fail
          go_meet
          exact ⟨rfl, HN, H11, HM, HMQ, HB⟩
        · have a4 := HTV.out.vote h1 h2
          have g5 : ((P.vote : Int) == 0) = false := by simp; omega
          have g5' : ((P.vote : Int) != 0) = true := by simp; omega
          have g6 : ((Q.vote : Int) == (P.vote : Int)) = true := by simp; omega
          have g6' : ((Q.vote : Int) != (P.vote : Int)) = false := by simp; omega
          clear h1 h2 a4
          go_wp2_with fail
          go_meet
          exact ⟨rfl, HN, H11, HM, HMQ, HB⟩
      · have g4 : ((Q.term : Int) == (P.term : Int)) = false := by simp; omega
        clear h1
        go_wp2_with fail
        go_meet
        exact ⟨rfl, HN, H11, HM, HMQ, HB⟩
     clear HN HM HMQ HB H11 n0 n3 n4 n11 m0 m3 m4 m11
     obtain ⟨rfl, HN, H11, HM, HMQ, HB⟩ := hcut
     obtain ⟨w12, x12, hw12, hx12, B12, H12, Z12⟩ := bk_at HB #[.int .u64 P.g.base, .int .u64 P.g.bt, .string P.g.snap, .slice D.e.a P.g.L.length D.e.c] 28
     have hx12n := hI_ (show x8 < x12 ∧ x11 < x12 from ⟨hx12 ▸ HN.lt, hx12 ▸ H11.lt⟩)
     have HN0 := HN
     replace HN := HN.later B12
     replace H11 := H11.later B12
     replace HM := HM.later B12
     replace HMQ := HMQ.later B12
     replace HB := HB.trans (B12.mono HB.size)
     obtain ⟨w13, x13, hw13, hx13, B13, H13, Z13⟩ := bk_at HB #[.int .u64 Q.g.base, .int .u64 Q.g.bt, .string Q.g.snap, .slice D3.e.a Q.g.L.length D3.e.c] 28
     have H110 := H11
     replace HN := HN.later B13
     replace H11 := H11.later B13
     replace H12 := H12.later B13
     replace HM := HM.later B13
     replace HMQ := HMQ.later B13
     replace HB := HB.trans (B13.mono HB.size)
     clear B12 B13
     go_upto_region 17 with (first
      | (refine lSb rfl _ rfl rfl [.int .u64 P.g.base, .int .u64 P.g.bt, .string P.g.snap, .slice D.e.a P.g.L.length D.e.c] logT HN0 rfl rfl ?_)
      | (refine lSb rfl _ rfl rfl [.int .u64 Q.g.base, .int .u64 Q.g.bt, .string Q.g.snap, .slice D3.e.a Q.g.L.length D3.e.c] logT H110 rfl rfl ?_))
     clear HN0 H110 hw12 hw13
     obtain ⟨LP, hLP⟩ : ∃ l, P.g.L = l := ⟨_, rfl⟩
     obtain ⟨LQ, hLQ⟩ : ∃ l, Q.g.L = l := ⟨_, rfl⟩
     obtain ⟨lp, hlp⟩ : ∃ l, LP.length = l := ⟨_, rfl⟩
     obtain ⟨lq, hlq⟩ : ∃ l, LQ.length = l := ⟨_, rfl⟩
     obtain ⟨ea, hea⟩ : ∃ a, D.e.a = a := ⟨_, rfl⟩
     obtain ⟨ec, hec2⟩ : ∃ a, D.e.c = a := ⟨_, rfl⟩
     obtain ⟨fa, hfa⟩ : ∃ a, D3.e.a = a := ⟨_, rfl⟩
     obtain ⟨fc, hfc⟩ : ∃ a, D3.e.c = a := ⟨_, rfl⟩
     obtain ⟨pb, hpb⟩ : ∃ a, P.g.base = a := ⟨_, rfl⟩
     obtain ⟨pbt, hpbt⟩ : ∃ a, P.g.bt = a := ⟨_, rfl⟩
     obtain ⟨ps, hps⟩ : ∃ a, P.g.snap = a := ⟨_, rfl⟩
     obtain ⟨qb, hqb⟩ : ∃ a, Q.g.base = a := ⟨_, rfl⟩
     obtain ⟨qbt, hqbt⟩ : ∃ a, Q.g.bt = a := ⟨_, rfl⟩
     obtain ⟨qs, hqs⟩ : ∃ a, Q.g.snap = a := ⟨_, rfl⟩
     have HEP := HM.e
     have HEQ := HMQ.e
     simp only at H12 H13
     rw [hLP, hlp, hea, hec2, hpb, hpbt, hps] at H12
     rw [hLQ, hlq, hfa, hfc, hqb, hqbt, hqs] at H13
     rw [hLP, hea] at HEP
     rw [hLQ, hfa] at HEQ
     have hbt1 : pb + lp ≤ 1099511627776 := by rw [← hpb, ← hlp, ← hLP]; exact hI.g.top
     have hbt2 : qb + lq ≤ 1099511627776 := by rw [← hqb, ← hlq, ← hLQ]; exact hIQ.g.top
     have hll3 : lp ≤ 1024 ∧ lq ≤ 1024 := ⟨by rw [← hlp, ← hLP]; exact hI.g.len, by rw [← hlq, ← hLQ]; exact hIQ.g.len⟩
     have HAT := hI_ (show ∀ (j : Nat) (e : En), LP[j]? = some e → (pb + j + 1 ≤ P.commit ∨ (P.role = 3 ∧ Q.role = 3)) → ¬ pb + j + 1 < qb → tAt qb qbt LQ (pb + j + 1) = (e.t, true) ∧ (qb < pb + j + 1 → LQ[pb + j + 1 - qb - 1]? = some e) from fun j e he hs hb => by
      have h5 := kc_at HKC.out (j := j) (e := e) (by rw [hLP]; exact he) (by rw [hpb]; exact hs) (by rw [hpb, hqb]; exact hb)
      rw [hpb, hqb, hqbt, hLQ] at h5
      exact h5)
     have HLP := hI_ hlp
     have HLQ := hI_ hlq
     have hRT : ∀ w1 (i : Nat), i < 18446744073709551616 → Ents w1 fa LQ → Calls Tryz.prog 18 #[.agg #[.int .u64 qb, .int .u64 qbt, .string qs, .slice fa lq fc], .int .u64 i] w1 fun e w' => e = .returned (.tuple #[.int .u64 (tAt qb qbt LQ i).1, .bool (tAt qb qbt LQ i).2]) ∧ Below w1.heap.size w1 w' := fun w1 i hi h => rTermAt_any qb qbt lq fc i qs fa LQ hlq (by omega) (by omega) hi w1 h
     have HRT := hI_ hRT
     clear hLP hLQ hlp hlq hea hec2 hfa hfc hpb hpbt hps hqb hqbt hqs HM hRT
     go_wp2_with fail
     go_loopw [14] (fun i wr => ∃ (j : Nat), j ≤ lp ∧ i = .int .i64 j ∧ Bk wr x8 34 (ndL P D) ∧ Bk wr x11 34 (ndL Q D3) ∧ NdM K wr Q D3 ∧ Bk wr x12 28 [.int .u64 pb, .int .u64 pbt, .string ps, .slice ea lp ec] ∧ Bk wr x13 28 [.int .u64 qb, .int .u64 qbt, .string qs, .slice fa lq fc] ∧ Ents wr ea LP ∧ Ents wr fa LQ ∧ Below w.heap.size w wr) (fun i _ => lp - (intOf i).toNat)
     case atStart => exact ⟨0, Nat.zero_le _, rfl, HN, H11, HMQ, H12, H13, HEP, HEQ, HB⟩
     case round =>
      clear HN H11 HMQ H12 H13 HEP HEQ HB
      obtain ⟨j, hj, rfl, HN, H11, HMQ, H12, H13, HEP, HEQ, HB⟩ := hrel
      by_cases hjl : j < lp
      · obtain ⟨e, he⟩ : ∃ e, LP[j]? = some e := ⟨_, List.getElem?_eq_getElem (by rw [HLP.out]; exact hjl)⟩
        have j0 : (0 : Int) ≤ (j : Int) := by omega
        have j1 : (j : Int) < (lp : Int) := by omega
        obtain ⟨bj, hbj⟩ : ∃ b, pb + j = b := ⟨_, rfl⟩
        obtain ⟨ai, hai⟩ : ∃ a, pb + j + 1 = a := ⟨_, rfl⟩
        have wa0 : IntKind.u64.wrap (j : Int) = (j : Int) := IntWalk.u64_in _ (by omega)
        have wa1 : IntKind.u64.wrap ((pb : Int) + (j : Int)) = (bj : Int) := by rw [IntWalk.u64_in _ (by omega)]; omega
        have wa2 : IntKind.u64.wrap ((bj : Int) + 1) = (ai : Int) := by rw [IntWalk.u64_in _ (by omega)]; omega
        have hai2 : ai < 18446744073709551616 := by omega
        have HA2 := hI_ (show (ai ≤ P.commit ∨ (P.role = 3 ∧ Q.role = 3)) → ¬ ai < qb → tAt qb qbt LQ ai = (e.t, true) ∧ (qb < ai → LQ[ai - qb - 1]? = some e) from fun h1 h2 => by
         have h5 := HAT.out j e he (by rw [hai]; exact h1) (by rw [hai]; exact h2)
         rw [hai] at h5; exact h5)
        have hai3 : ai ≤ 1099511627776 := by omega
        have HAI := hI_ hai
        have HE9 := hI_ he
        clear hbj hai he
        have c0 := H12.bx.c 0 _ rfl
        have c3 := H12.bx.c 3 _ rfl
        have n9 := HN.bx.c 9 _ rfl
        have n11 := HN.bx.c 11 _ rfl
        have m9 := H11.bx.c 9 _ rfl
        have d0 := H13.bx.c 0 _ rfl
        go_upto_region 21 with fail
        go_cut [16] (fun sv wx => ∃ sb : Bool, sv = .bool sb ∧ (sb = true → ai ≤ P.commit ∨ (P.role = 3 ∧ Q.role = 3)) ∧ Bk wx x8 34 (ndL P D) ∧ Bk wx x11 34 (ndL Q D3) ∧ NdM K wx Q D3 ∧ Bk wx x12 28 [.int .u64 pb, .int .u64 pbt, .string ps, .slice ea lp ec] ∧ Bk wx x13 28 [.int .u64 qb, .int .u64 qbt, .string qs, .slice fa lq fc] ∧ Ents wx ea LP ∧ Ents wx fa LQ ∧ Below w.heap.size w wx)
        case first =>
         by_cases h1 : ai ≤ P.commit
         · have g1 : decide ((ai : Int) ≤ (P.commit : Int)) = true := by simp; omega
           have HY := hI_ h1
           have g1n : decide (ai ≤ P.commit) = true := by simp; omega
           have g1i : (ai : Int) ≤ (P.commit : Int) := by omega
           go_wp2_with fail
           go_meet
           exact ⟨_, rfl, fun _ => .inl HY.out, HN, H11, HMQ, H12, H13, HEP, HEQ, HB⟩
         · have g1 : decide ((ai : Int) ≤ (P.commit : Int)) = false := by simp; omega
           have g1' : P.commit < ai := by omega
           by_cases h2 : P.role = 3
           · have g2 : (P.role == 3) = true := by simp [h2]
             by_cases h3 : Q.role = 3
             · have g3 : (Q.role == 3) = true := by simp [h3]
               have HY := hI_ (And.intro h2 h3)
               clear h1 h2 h3
               go_wp2_with fail
               go_meet
               exact ⟨_, rfl, fun _ => .inr HY.out, HN, H11, HMQ, H12, H13, HEP, HEQ, HB⟩
             · have g3 : (Q.role == 3) = false := by simpa using h3
               clear h1 h2 h3
               go_wp2_with fail
               go_meet
               exact ⟨_, rfl, (fun h => by simp at h; omega), HN, H11, HMQ, H12, H13, HEP, HEQ, HB⟩
           · have g2 : (P.role == 3) = false := by simpa using h2
             clear h1 h2
             go_wp2_with fail
             go_meet
             exact ⟨_, rfl, (fun h => by simp at h; omega), HN, H11, HMQ, H12, H13, HEP, HEQ, HB⟩
        clear HN H11 HMQ H12 H13 HEP HEQ HB c0 c3 n9 n11 m9 d0
        obtain ⟨sb, rfl, hsb, HN, H11, HMQ, H12, H13, HEP, HEQ, HB⟩ := hcut
        have HSB := hI_ hsb
        clear hsb
        have d0 := H13.bx.c 0 _ rfl
        cases sb
        case false =>
         go_wp2_with fail
         go_roundw
         case rel => exact ⟨j + 1, by omega, by go_num, HN, H11, HMQ, H12, H13, HEP, HEQ, HB⟩
         case measure => simp [intOf]; omega
        case true =>
         by_cases hq : ai < qb
         · have g1 : decide ((ai : Int) < (qb : Int)) = true := by simp; omega
           have g1n : decide (ai < qb) = true := by simp; omega
           go_wp2_with fail
           go_roundw
           case rel => exact ⟨j + 1, by omega, by go_num, HN, H11, HMQ, H12, H13, HEP, HEQ, HB⟩
           case measure => simp [intOf]; omega
         · have g1 : decide ((ai : Int) < (qb : Int)) = false := by simp; omega
           have g1' : qb ≤ ai := by omega
           have g1n : decide (ai < qb) = false := by simp; omega
           obtain ⟨h1, h2⟩ := HA2.out (HSB.out rfl) hq
           have H2 := hI_ h2
           have HR2 := HRT.out _ ai hai2 HEQ
           rw [h1] at HR2
           have HR3 := hI_ HR2
           clear h1 h2 hq HR2
           go_wp2_with (first
            | (refine lBk rfl _ rfl rfl logT H13 rfl ?_))
           refine HR3.out.mono ?_
           rintro e1 w9 ⟨rfl, hb⟩
           clear HR3
           replace HB := HB.trans (hb.mono HB.size)
           replace HN := HN.later hb
           replace H11 := H11.later hb
           replace HMQ := HMQ.later hb
           replace H12 := H12.later hb
           replace H13 := H13.later hb
           replace HEP := HEP.later hb
           replace HEQ := HEQ.later hb
           clear hb d0
           have c3 := H12.bx.c 3 _ rfl
           have d0 := H13.bx.c 0 _ rfl
           have d3 := H13.bx.c 3 _ rfl
           obtain ⟨pbk, pof, hpa, hplt, p0, p1⟩ := HEP j e HE9.out
           have HD9 := hI_ (fun (q : Nat) => (show (Bk (w9.drewN q) x8 34 (ndL P D) ∧ Bk (w9.drewN q) x11 34 (ndL Q D3) ∧ NdM K (w9.drewN q) Q D3 ∧ Bk (w9.drewN q) x12 28 [.int .u64 pb, .int .u64 pbt, .string ps, .slice ea lp ec] ∧ Bk (w9.drewN q) x13 28 [.int .u64 qb, .int .u64 qbt, .string qs, .slice fa lq fc] ∧ Ents (w9.drewN q) ea LP ∧ Ents (w9.drewN q) fa LQ ∧ Below w.heap.size w (w9.drewN q)) from
            have hd := below_drewN (Below.refl w9.heap.size w9) q
            ⟨HN.later hd, H11.later hd, HMQ.later hd, H12.later hd, H13.later hd, HEP.later hd, HEQ.later hd, below_drewN HB q⟩))
           subst hpa
           have gt1 : ((e.t : Int) == (e.t : Int)) = true := by simp
           have gt2 : ((e.t : Int) != (e.t : Int)) = false := by simp
           by_cases hq2 : qb < ai
           · have g2 : decide ((qb : Int) < (ai : Int)) = true := by simp; omega
             have g2n : decide (qb < ai) = true := by simp; omega
             have g2i : (qb : Int) < (ai : Int) := by omega
             obtain ⟨qi, hqi⟩ : ∃ q, ai - qb - 1 = q := ⟨_, rfl⟩
             have he2 := H2.out hq2
             rw [hqi] at he2
             obtain ⟨qbk, qof, hqa, hqlt, r0, r1⟩ := HEQ qi e he2
             have hqil := (List.getElem?_eq_some_iff.1 he2).1
             rw [HLQ.out] at hqil
             have wb1 : IntKind.u64.wrap ((ai : Int) - (qb : Int)) = ((qi + 1 : Nat) : Int) := by rw [IntWalk.u64_in _ (by omega)]; omega
             have wb2 : IntKind.u64.wrap (((qi + 1 : Nat) : Int) - 1) = (qi : Int) := by rw [IntWalk.u64_in _ (by omega)]; omega
             have wb3 : ((qi + 1 : Nat) : Int) - 1 = (qi : Int) := by omega
             have q0 : (0 : Int) ≤ (qi : Int) := by omega
             have q1 : (qi : Int) < (lq : Int) := by omega
             subst hqa
             clear hqi he2 hqil
             go_wp2_with fail
             go_quiet (fail)
             go_wp2_with fail
             obtain ⟨HN, H11, HMQ, H12, H13, HEP, HEQ, HB⟩ := HD9.out _
             go_roundw
             case rel => exact ⟨j + 1, by omega, by go_num, HN, H11, HMQ, H12, H13, HEP, HEQ, HB⟩
             case measure => simp [intOf]; omega
           · have g2 : decide ((qb : Int) < (ai : Int)) = false := by simp; omega
             have g2n : decide (qb < ai) = false := by simp; omega
             have g2i : ¬ (qb : Int) < (ai : Int) := by omega
             have g2' : ai ≤ qb := by omega
             go_wp2_with fail
             go_quiet (fail)
             go_wp2_with fail
             obtain ⟨HN, H11, HMQ, H12, H13, HEP, HEQ, HB⟩ := HD9.out _
             go_roundw
             case rel => exact ⟨j + 1, by omega, by go_num, HN, H11, HMQ, H12, H13, HEP, HEQ, HB⟩
             case measure => simp [intOf]; omega
      · obtain rfl : j = lp := by omega
        have j1 : ¬ (j : Int) < (j : Int) := by omega
        have c3 := H12.bx.c 3 _ rfl
        go_wp2_with (first
         | (refine lBk rfl _ rfl rfl nodeT H11 rfl ?_)
         | (refine sBk rfl _ _ rfl rfl (M := ndL Q D3) rfl nodeT HN rfl rfl rfl ?_; intro w' hk5 hg; replace HMQ := HMQ.grown hg (by have := hxx.out; omega) HN.bx.ty bNd; replace HB := bGr HB hg HB.size (by have := hxx.out; omega); replace HN := hk5; clear hk5 hg))
        go_roundw
        case rel => exact ⟨k + 1, Q, D3, by omega, by go_num, HN, HMQ, hIQ, hhQ, HB⟩
        case measure => simp [intOf]; omega
   · obtain rfl : k = n := by omega
     have i1 : ¬ (k : Int) < (k : Int) := by omega
     go_wp2_with fail
     go_ret
     exact ⟨rfl, HB⟩
end Go.Proofs.YtdcpiaoadbbdoaaGreatDoor
