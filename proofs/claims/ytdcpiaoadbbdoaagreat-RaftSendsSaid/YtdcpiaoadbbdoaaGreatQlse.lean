/- RaftSends: what a node sends. -/
import Derived.Test.YtdcpiaoadbbdoaaGreatBulk
import Derived.Test.YtdcpiaoadbbdoaaGreatQlz
set_option maxRecDepth 100000
set_option maxHeartbeats 16000000
namespace Go.Proofs.YtdcpiaoadbbdoaaGreat
open Go.RowKit

def sendP (p : Pn) (a : Ac) : Pn × List Mg :=
 if a.k = 1 then tickP p a.n
 else if a.k = 2 then hearP p a.m
 else if a.k = 3 then (if offX p a.s = 0 then offP p a.s else (p, []))
 else (p, [])
structure Ms9 (id : Nat) (q : Pn) (a : Ac) (x : Mg) : Prop where
 fr : x.fr = id
 dst : x.dst ≠ id ∧ 1 ≤ x.dst ∧ x.dst ≤ 63
 es : x.es.length ≤ 8
 ans : x.kind = 2 ∨ x.kind = 4 ∨ x.kind = 7 → a.k = 2 ∧ x.dst = a.m.fr
 term : x.kind ≠ 1 → ¬ (x.kind = 2 ∧ x.ok = true) → x.term ≤ q.term
 led : x.kind = 5 ∨ x.kind = 6 → q.role = 3 ∧ x.term = q.term ∧ x.commit ≤ q.commit
theorem ms_of1 {q : Pn} {a : Ac} {x : Mg} (h : Mk1 q x) : Ms9 q.id q a x :=
 ⟨h.fr, h.dst, h.es, fun e => by have := h.kind; omega, fun e _ => h.term e, h.led⟩
theorem ms_of2 {p q : Pn} {a : Ac} {x : Mg} (hk : a.k = 2) (h : Mk2 p q a.m x) : Ms9 q.id q a x :=
 ⟨h.fr, h.dst, h.es, fun e => ⟨hk, h.ans e⟩, h.term, h.led⟩
theorem off_role {p : Pn} {s : ByteArray} (h : offX p s = 0) : p.role = 3 := by
 unfold offX at h
 by_cases e : p.role = 3
 · exact e
 · rw [if_pos e] at h; exact absurd h (by decide)
theorem send_iv {p : Pn} (h : Iv p) {a : Ac} (hm : Bm a.m) : Iv (sendP p a).1 := by
 unfold sendP
 split
 · exact iv_tick h a.n
 · split
   · exact iv_hear h hm
   · split
     · split
       · rename_i e; exact iv_off h e
       · exact h
     · exact h
theorem send_hd {p : Pn} (h : p.heard ≤ 10) (a : Ac) : (sendP p a).1.heard ≤ 10 := by
 unfold sendP
 split
 · exact hd_tick h a.n
 · split
   · exact hd_hear h a.m
   · split
     · split
       · exact hd_off h a.s
       · exact h
     · exact h
theorem send_id {p : Pn} (hb : p.role = 1 → p.term + 1 < 18446744073709551616) (a : Ac) : (sendP p a).1.id = p.id := by
 unfold sendP
 split
 · exact (tv_tick p a.n).id
 · split
   · exact (tv_hear hb a.m).id
   · split
     · split
       · exact (tv_off p a.s).id
       · rfl
     · rfl
theorem send_ok {p : Pn} (h : Iv p) (a : Ac) : ∀ x ∈ (sendP p a).2, Ms9 (sendP p a).1.id (sendP p a).1 a x := by
 unfold sendP
 split
 · exact fun x hx => ms_of1 (tick_ok h.may a.n x hx)
 · split
   · rename_i e; exact fun x hx => ms_of2 e (hear_ok h.may a.m x hx)
   · split
     · split
       · rename_i e; exact fun x hx => ms_of1 (off_ok h.may a.s (off_role e) x hx)
       · exact fun x hx => by cases hx
     · exact fun x hx => by cases hx
theorem law_RaftSends (id : Nat) (c : Cf) (s1 s2 : Sa) (t vt : Nat) (g : Lg) (sg : Sa) (A : List Ac) (sa : Option Addr) (n sc : Nat) (hid : id < 18446744073709551616) (hvl : c.V.length ≤ 140737488351232) (hll : c.L.length ≤ 140737488351232) (hec : g.L.length ≤ sg.c) (hem : sg.c ≤ maxLen) (hel : g.L.length ≤ 140737488351232) (hsn : g.snap.size ≤ 140737488351232) (hdt : ∀ x ∈ g.L, x.d.size ≤ 140737488351232) (hal : A.length = n) (han : n ≤ 140737488351232) (w : World) (hV : Uc w s1 c.V) (hU : Us w s2.a c.L) (hE : Ents w sg.a g.L) (hA : Acs w sa A) (hOK : ∀ x ∈ A, AcOk w x) :
 Calls Tryz.prog 4 #[.agg #[.int .u64 id, .slice s1.a c.V.length s1.c, .slice s2.a c.L.length s2.c, .int .u64 t, .int .u64 vt, .int .u64 g.base, .int .u64 g.bt, .string g.snap, .slice sg.a g.L.length sg.c, .slice sa n sc]] w (Yes w) := by
 obtain ⟨W0, x1, hW0, hx1, B0, HW, Z0⟩ := bk_new w #[.int .u64 id, .slice s1.a c.V.length s1.c, .slice s2.a c.L.length s2.c, .int .u64 t, .int .u64 vt, .int .u64 g.base, .int .u64 g.bt, .string g.snap, .slice sg.a g.L.length sg.c, .slice sa n sc] 48
 obtain ⟨W1, x4, hW1, hx4, B1, HC, Z1⟩ := bk_new W0 #[.slice s1.a c.V.length s1.c, .slice s2.a c.L.length s2.c] 25
 obtain ⟨W2, x5, hW2, hx5, B2, HS5, Z2⟩ := bk_new W1 #[.int .u64 t, .int .u64 vt, .int .u64 g.base, .int .u64 g.bt, .string g.snap, .slice sg.a g.L.length sg.c] 30
 have B0' : Below w.heap.size w W0 := hx1 ▸ B0
 have B1' : Below W0.heap.size W0 W1 := hx4 ▸ B1
 have B2' : Below W1.heap.size W1 W2 := hx5 ▸ B2
 have HW1 := HW.later B1'
 have HW2 := HW1.later B2'
 replace HC := HC.later B2'
 have HB1 := B0'.trans (B1'.mono B0'.size)
 have HB := HB1.trans (B2'.mono HB1.size)
 have hx45 := hI_ (show w.heap.size = x1 ∧ x1 < x4 ∧ x4 < x5 by have := Z0.out; have := Z1.out; omega)
 have HNN := hI_ hal
 have HAA := hI_ hA
 have HOO := hI_ hOK
 have HNW := hI_ (show ∀ w1, Below w.heap.size w w1 → Calls Tryz.prog 12 #[.int .u64 id, .agg #[.slice s1.a c.V.length s1.c, .slice s2.a c.L.length s2.c], .agg #[.int .u64 t, .int .u64 vt, .int .u64 g.base, .int .u64 g.bt, .string g.snap, .slice sg.a g.L.length sg.c]] w1 (NwP w1.heap.size w1 id c t vt g) from fun w1 h => pNew_any id c s1 s2 sg t vt g hid hvl hll hel hec hem hsn hdt w1.heap.size w1 (Nat.le_refl _) (hV.later h) (hU.later h) (hE.later h))
 clear hV hU hE hA hOK B0 B1 B2 B0' B1' B2' HB1 hal
 obtain ⟨P0, hP0⟩ : ∃ P0, newP id c t vt g = P0 := ⟨_, rfl⟩
 have HP0 := hI_ hP0
 go_enter Tryz.func4, Tryz.ntmps4
 go_wp2_with (first
  | (refine lSb rfl _ rfl rfl [.slice s1.a c.V.length s1.c, .slice s2.a c.L.length s2.c] confT HW rfl rfl ?_)
  | (refine lSb rfl _ rfl rfl [.int .u64 t, .int .u64 vt, .int .u64 g.base, .int .u64 g.bt, .string g.snap, .slice sg.a g.L.length sg.c] stabT HW1 rfl rfl ?_)
  | (refine lCc rfl _ rfl rfl (by first | exact ocU | exact ocAc) HW rfl ?_)
  | (refine lCc rfl _ rfl rfl (by first | exact ocU | exact ocAc) HW2 rfl ?_))
 refine (pShown_any _).mono ?_
 rintro e w3 ⟨rfl, hb⟩
 replace HB := HB.trans (hb.mono HB.size)
 replace HC := HC.later hb
 replace HS5 := HS5.later hb
 clear hb HW HW1 HW2
 obtain ⟨K, hK⟩ : ∃ K, K = w3.heap.size := ⟨_, rfl⟩
 have HKK := hI_ (show w.heap.size ≤ K by rw [hK]; exact HB.size)
 go_wp2_with (first
  | (refine lBk rfl _ rfl rfl confT HC rfl ?_)
  | (refine lBk rfl _ rfl rfl stabT HS5 rfl ?_))
 have HNX := hI_ (HNW.out w3 HB)
 rw [← hK] at HNX
 refine HNX.out.mono ?_
 rintro e w4 ⟨hn, hb⟩
 have hKs := hI_ (show K ≤ w4.heap.size by rw [hK]; exact hb.size)
 replace HB := HB.trans (hb.mono HB.size)
 replace HS5 := HS5.later hb
 clear hb HNW HC hK
 obtain ⟨w8, x8, hw8, hx8, B8, HN, Z8⟩ := bk_new w4 znA 34
 have B8' : Below w4.heap.size w4 w8 := hx8 ▸ B8
 have hxx := hI_ (show w.heap.size ≤ x8 ∧ K ≤ x8 ∧ x5 < x8 by have := hKs.out; have := HKK.out; have := HS5.lt; omega)
 have HB4 := hI_ HB.size
 replace HB := HB.trans (B8'.mono HB.size)
 replace HS5 := HS5.later B8'
 unfold znA at hw8
 clear B8
 rcases hn with ⟨hok, D0, rfl, HM⟩ | ⟨_, rfl⟩
 case inr =>
  go_wp2_with (first
   | (refine sBk rfl _ _ rfl rfl (M := znA.toList) rfl nodeT HN rfl rfl rfl ?_; intro w' hk5 hg; replace HB := bGr HB hg HB.size (by have := hxx.out; omega); replace HN := hk5; clear hk5 hg))
  go_ret
  exact ⟨rfl, HB⟩
 case inl =>
  replace HM := HM.later B8'
  clear B8'
  rw [HP0.out] at HM
  have hiv : Iv P0 := by rw [← HP0.out]; exact iv_new hok.1 hok.2.1 hok.2.2
  have hhd : P0.heard ≤ 10 := by rw [← HP0.out]; show (0 : Int) ≤ 10; decide
  rw [HP0.out]
  have hpid : P0.id = id := by rw [← HP0.out]; rfl
  clear hok
  go_wp2_with (first
   | (refine sBk rfl _ _ rfl rfl (M := ndL P0 D0) rfl nodeT HN rfl rfl rfl ?_; intro w' hk5 hg; replace HM := HM.grown hg (by have := hxx.out; omega) HN.bx.ty bNd; replace HB := bGr HB hg HB.size (by have := hxx.out; omega); replace HN := hk5; clear hk5 hg))
  clear hw8 HS5
  go_loopw [10] (fun i wr => ∃ (k : Nat) (P : Pn) (D : Ad), k ≤ n ∧ i = .int .i64 k ∧ P.id = id ∧ Bk wr x8 34 (ndL P D) ∧ NdM K wr P D ∧ Iv P ∧ P.heard ≤ 10 ∧ Below w.heap.size w wr) (fun i _ => n - (intOf i).toNat)
  case atStart => exact ⟨0, P0, D0, Nat.zero_le _, rfl, hpid, HN, HM, hiv, hhd, HB⟩
  case round =>
   clear HN HM hiv hhd HB hpid
   obtain ⟨k, P, D, hk, rfl, hpid, HN, HM, hI, hh, HB⟩ := hrel
   by_cases hlt : k < n
   · obtain ⟨x, hx⟩ : ∃ x, A[k]? = some x := ⟨_, List.getElem?_eq_getElem (by rw [HNN.out]; exact hlt)⟩
     have hok := HOO.out x (List.mem_of_getElem? hx)
     have i0 : (0 : Int) ≤ (k : Int) := by omega
     have i1 : (k : Int) < (n : Int) := by omega
     obtain ⟨b, off, rfl, hb0, hc0⟩ := HAA.out k x hx
     have HAC := hI_ (show ∀ w1, Below w.heap.size w w1 → ∀ j u, (acC x)[j]? = some u → w1.cell? ⟨b, off + k * 15 + j, none⟩ = some u from fun w1 h j u hu => (h.cell (p := ⟨b, off + k * 15 + j, none⟩) hb0).trans (hc0 j u hu))
     have HEX := hI_ (show ∀ w1, Below w.heap.size w w1 → Ents w1 x.m.at_ x.m.es from fun w1 h => hok.E.later h)
     clear hx hc0
     have hes : x.m.es.length ≤ 8000000000000 := by have := hok.m.es; omega
     have HPID := hI_ hpid
     have HIP := hI_ hI
     have HHP0 := hI_ hh
     have hb1 : P.role = 1 → P.term + 1 < 18446744073709551616 := fun _ => by have := hI.term; omega
     have hsid := (send_id hb1 x).trans hpid
     have hsiv := send_iv hI hok.m
     have hshd := send_hd hh x
     have hsok := send_ok hI x
     rw [hsid] at hsok
     have HSS := hI_ (And.intro hsid (And.intro hsiv (And.intro hshd hsok)))
     clear hpid hb1 hsid hsiv hshd hsok
     obtain ⟨w11, x11, hw11, hx11, B11, H11, Z11⟩ := bk_new wr znA 34
     have B11' : Below wr.heap.size wr w11 := hx11 ▸ B11
     have hxt := hI_ (show x8 < x11 ∧ w.heap.size ≤ x11 from ⟨hx11 ▸ HN.lt, hx11 ▸ HB.size⟩)
     have HN0 := HN
     replace HN := HN.later B11'
     replace HM := HM.later B11'
     replace HB := HB.trans (B11'.mono HB.size)
     unfold znA at hw11
     clear B11 B11'
     go_upto_region 14 with (first
      | (refine lBk rfl _ rfl rfl nodeT HN0 rfl ?_)
      | (refine sBk rfl _ _ rfl rfl (M := ndL P D) rfl nodeT H11 rfl rfl rfl ?_; intro w' hk5 hg; replace HN := HN.grown hg (by have := hxt.out; omega); replace HM := HM.grown hg (by have := hxt.out; have := hxx.out; omega) H11.bx.ty bNd; replace HB := bGr HB hg HB.size (by have := hxt.out; omega); replace H11 := hk5; clear hk5 hg))
     clear HN0 hw11
     have p0 := HAC.out _ HB 0 _ rfl
     rw [Nat.add_zero] at p0
     go_cut [56] (fun kv wx => kv = .int .i64 x.k ∧ Bk wx x8 34 (ndL P D) ∧ Bk wx x11 34 (ndL P D) ∧ NdM K wx P D ∧ Below w.heap.size w wx)
     case first =>
      as_aux_lemma =>
       go_wp2_with fail
       go_meet
       exact ⟨rfl, HN, H11, HM, HB⟩
     clear HN H11 HM HB p0
     obtain ⟨rfl, HN, H11, HM, HB⟩ := hcut
     rename_i hgo9
     refine hgo9 _ _ ?_
     clear hgo9
     go_cut [12] (fun ov wx => ∃ (Q : Pn) (D3 : Ad) (oa : Option Addr) (on oc : Nat) (O : List Mg), O.length = on ∧ on ≤ 9223372036854775807 ∧ ov = .slice oa on oc ∧ Mgs wx oa O ∧ Iv Q ∧ Q.heard ≤ 10 ∧ Q.id = id ∧ (∀ y ∈ O, Ms9 id Q x y.pl) ∧ Bk wx x8 34 (ndL P D) ∧ Bk wx x11 34 (ndL Q D3) ∧ NdM K wx Q D3 ∧ Below w.heap.size w wx)
     case first =>
      as_aux_lemma =>
       obtain ⟨Q, M3, hQM⟩ : ∃ Q M3, sendP P x = (Q, M3) := ⟨_, _, rfl⟩
       have hss := HSS.out
       rw [hQM] at hss
       have HIDQ := hI_ hss.1
       have HIQ := hI_ hss.2.1
       have HHQ := hI_ hss.2.2.1
       have HMK := hI_ hss.2.2.2
       have HQM := hI_ hQM
       clear hss hQM
       by_cases hk1 : x.k = 1
       · as_aux_lemma =>
          have gk1 : (x.k == 1) = true := by rw [hk1]; rfl
          have HHP := hI_ (show tickP P x.n = (Q, M3) by rw [← HQM.out]; unfold sendP; rw [if_pos hk1])
          clear hk1
          go_wp2_with fail
          replace H11 := H11.later ((Below.refl _ _).drew)
          refine wp_region_held_drew (S := fun w' => Bk w' x8 34 (ndL P D) ∧ NdM K w' P D ∧ Below w.heap.size w w') (by kernel_rfl) (⟨HN.later ((Below.refl _ _).drew), HM.later ((Below.refl _ _).drew), HB.drew⟩) (fun HS => ?_)
          refine tkh (i := 0) (v := (.agg (ndL P D).toArray)) rfl ⟨by rfl, fun _ hSw => eLb _ rfl rfl nodeT hSw.1 rfl⟩ HS ?_
          try simp only [ly, Act.put]
          refine tkp (i := 1) rfl HS ?_
          try simp only [ly, Act.put]
          refine tkp (i := 2) rfl HS ?_
          try simp only [ly, Act.put]
          refine tkp (i := 3) rfl HS ?_
          try simp only [ly, Act.put]
          refine tkp (i := 4) rfl HS ?_
          refine tkh (i := 5) (v := (.int .u64 x.n)) rfl ⟨by rfl, fun _ hSw => exec_load_cell _ rfl rfl ocU (HAC.out _ hSw.2.2 1 _ rfl)⟩ HS ?_
          try simp only [ly, Act.put]
          refine onh (r := 6) (by kernel_rfl) rfl (fun KK hK => ?_)
          go_simp
          refine (pTick_any P D hI.bd hh x.n K _ (by have := hxx.out; have := HS.1.lt; omega) HS.2.1).mono ?_
          rw [HHP.out]
          rintro e w5 ⟨D3, v, O, rfl, hm3, hC, hO, hb⟩
          simp only at hO hm3
          have HM3 := hm3
          have HC := hC
          have HO := hI_ hO
          clear hm3 hC hO
          replace H11 := H11.later hb
          go_wp2_with fail
          refine hK.out _ _ ⟨HS.1.later hb, HS.2.1.later hb, HS.2.2.trans (hb.mono HS.2.2.size)⟩ (fun HS => ?_)
          clear hK
          try simp only [ly, Act.put]
          refine tkp (i := 7) rfl HS ?_
          try simp only [ly, Act.put]
          refine tkp (i := 8) rfl HS ?_
          try simp only [ly, Act.put]
          refine tkp (i := 9) rfl HS ?_
          try simp only [ly, Act.put]
          refine onh (r := 10) (by kernel_rfl) rfl (fun KK hK => ?_)
          rw [if_pos (by rfl)]
          refine wSb _ _ rfl rfl (M := ndL Q D3) rfl nodeT H11 rfl rfl rfl ?_
          intro w' hk5 hg
          have HS9 := And.intro (HS.1.grown hg (by have := hxt.out; omega)) (And.intro (HS.2.1.grown hg (by have := hxt.out; have := hxx.out; omega) H11.bx.ty bNd) (bGr HS.2.2 hg HS.2.2.size (by have := hxt.out; omega)))
          replace HM3 := HM3.grown hg (by have := hxt.out; have := hxx.out; omega) H11.bx.ty bNd
          replace HC := HC.box hg H11.bx.ty boxNm
          replace H11 := hk5
          clear hk5 hg
          refine hK.out _ _ HS9 (fun HS => ?_)
          clear HS9
          clear hK
          try simp only [ly, Act.put]
          refine tkp (i := 11) rfl HS ?_
          try simp only [ly, Act.put]
          refine wpAnyH_done (by kernel_rfl) ?_ _
          obtain ⟨oa, oc, rfl, hOM, hl1, hl2⟩ := HC.form
          have hl3 : O.length ≤ 9223372036854775807 := by unfold maxLen at hl2; omega
          clear hl1 hl2
          go_wp2_with fail
          go_meet
          exact ⟨Q, D3, oa, O.length, oc, O, rfl, hl3, rfl, hOM, HIQ.out, HHQ.out, HIDQ.out, fun y hy => HMK.out _ (by rw [← HO.out]; exact List.mem_map_of_mem hy), HS.1, H11, HM3, HS.2.2⟩
       have gk1 : (x.k == 1) = false := by simpa using hk1
       by_cases hk2 : x.k = 2
       · as_aux_lemma =>
          have gk2 : (x.k == 2) = true := by rw [hk2]; rfl
          have HHP := hI_ (show hearP P x.m = (Q, M3) by rw [← HQM.out]; unfold sendP; rw [if_neg hk1, if_pos hk2])
          clear hk1 hk2
          go_wp2_with fail
          replace H11 := H11.later ((Below.refl _ _).drew)
          refine wp_region_held_drew (S := fun w' => Bk w' x8 34 (ndL P D) ∧ NdM K w' P D ∧ Below w.heap.size w w') (by kernel_rfl) (⟨HN.later ((Below.refl _ _).drew), HM.later ((Below.refl _ _).drew), HB.drew⟩) (fun HS => ?_)
          refine tkh (i := 0) (v := (.agg (ndL P D).toArray)) rfl ⟨by rfl, fun _ hSw => eLb _ rfl rfl nodeT hSw.1 rfl⟩ HS ?_
          try simp only [ly, Act.put]
          refine tkp (i := 1) rfl HS ?_
          try simp only [ly, Act.put]
          refine tkp (i := 2) rfl HS ?_
          try simp only [ly, Act.put]
          refine tkp (i := 3) rfl HS ?_
          try simp only [ly, Act.put]
          refine tkp (i := 4) rfl HS ?_
          refine tkh (i := 5) (v := (.agg #[.int .i64 x.m.kind, .int .u64 x.m.fr, .int .u64 x.m.dst, .int .u64 x.m.term, .int .u64 x.m.i, .int .u64 x.m.lt, .int .u64 x.m.commit, .bool x.m.ok, .slice x.m.at_ x.m.es.length x.m.cap, .string x.m.snap])) rfl ⟨by rfl, fun _ hSw => exec_load_el _ rfl rfl (mgC x.m) messT rfl (act_sub x 2 10 _ rfl rfl (HAC.out _ hSw.2.2))⟩ HS ?_
          try simp only [ly, Act.put]
          refine onh (r := 6) (by kernel_rfl) rfl (fun KK hK => ?_)
          go_simp
          refine (pHear_any P D hI.bd x.m hok.m (by have := hI.g.len; omega) (by have := hI.vlen; omega) (by have := hI.nlen; omega) (by have := hI.mlen; omega) K _ (by have := hxx.out; have := HS.1.lt; omega) HS.2.1 (HEX.out _ HS.2.2)).mono ?_
          rw [HHP.out]
          rintro e w5 ⟨D3, v, O, rfl, hm3, hC, hO, hb⟩
          simp only at hO hm3
          have HM3 := hm3
          have HC := hC
          have HO := hI_ hO
          clear hm3 hC hO
          replace H11 := H11.later hb
          go_wp2_with fail
          refine hK.out _ _ ⟨HS.1.later hb, HS.2.1.later hb, HS.2.2.trans (hb.mono HS.2.2.size)⟩ (fun HS => ?_)
          clear hK
          try simp only [ly, Act.put]
          refine tkp (i := 7) rfl HS ?_
          try simp only [ly, Act.put]
          refine tkp (i := 8) rfl HS ?_
          try simp only [ly, Act.put]
          refine tkp (i := 9) rfl HS ?_
          try simp only [ly, Act.put]
          refine onh (r := 10) (by kernel_rfl) rfl (fun KK hK => ?_)
          rw [if_pos (by rfl)]
          refine wSb _ _ rfl rfl (M := ndL Q D3) rfl nodeT H11 rfl rfl rfl ?_
          intro w' hk5 hg
          have HS9 := And.intro (HS.1.grown hg (by have := hxt.out; omega)) (And.intro (HS.2.1.grown hg (by have := hxt.out; have := hxx.out; omega) H11.bx.ty bNd) (bGr HS.2.2 hg HS.2.2.size (by have := hxt.out; omega)))
          replace HM3 := HM3.grown hg (by have := hxt.out; have := hxx.out; omega) H11.bx.ty bNd
          replace HC := HC.box hg H11.bx.ty boxNm
          replace H11 := hk5
          clear hk5 hg
          refine hK.out _ _ HS9 (fun HS => ?_)
          clear HS9
          clear hK
          try simp only [ly, Act.put]
          refine tkp (i := 11) rfl HS ?_
          try simp only [ly, Act.put]
          refine wpAnyH_done (by kernel_rfl) ?_ _
          obtain ⟨oa, oc, rfl, hOM, hl1, hl2⟩ := HC.form
          have hl3 : O.length ≤ 9223372036854775807 := by unfold maxLen at hl2; omega
          clear hl1 hl2
          go_wp2_with fail
          go_meet
          exact ⟨Q, D3, oa, O.length, oc, O, rfl, hl3, rfl, hOM, HIQ.out, HHQ.out, HIDQ.out, fun y hy => HMK.out _ (by rw [← HO.out]; exact List.mem_map_of_mem hy), HS.1, H11, HM3, HS.2.2⟩
       have gk2 : (x.k == 2) = false := by simpa using hk2
       by_cases hk3 : x.k = 3
       · have gk3 : (x.k == 3) = true := by rw [hk3]; rfl
         have hml := hI.mlen
         by_cases h0 : offX P x.s = 0
         · as_aux_lemma =>
            have h3 : offP P x.s = (Q, M3) := by rw [← HQM.out]; unfold sendP; rw [if_neg hk1, if_neg hk2, if_pos hk3, if_pos h0]
            have HOF := hI_ (show ∀ w1, K ≤ w1.heap.size → NdM K w1 P D → Calls Tryz.prog 8 #[ndV P D, .string x.s] w1 (OcP K w1 0 (Q, M3)) from fun w1 h1 h2 => by
             have h := pOffer_any P D hI.bd (by omega) x.s hok.s K w1 h1 h2
             rw [h0, h3] at h; exact h)
            clear hk1 hk2 hk3 h0 h3 hml
            go_wp2_with fail
            replace H11 := H11.later ((Below.refl _ _).drew)
            refine wp_region_held_drew (S := fun w' => Bk w' x8 34 (ndL P D) ∧ NdM K w' P D ∧ Below w.heap.size w w') (by kernel_rfl) (⟨HN.later ((Below.refl _ _).drew), HM.later ((Below.refl _ _).drew), HB.drew⟩) (fun HS => ?_)
            refine tkh (i := 0) (v := (.agg (ndL P D).toArray)) rfl ⟨by rfl, fun _ hSw => eLb _ rfl rfl nodeT hSw.1 rfl⟩ HS ?_
            try simp only [ly, Act.put]
            refine tkp (i := 1) rfl HS ?_
            try simp only [ly, Act.put]
            refine tkp (i := 2) rfl HS ?_
            try simp only [ly, Act.put]
            refine tkp (i := 3) rfl HS ?_
            try simp only [ly, Act.put]
            refine tkp (i := 4) rfl HS ?_
            refine tkh (i := 5) (v := (.string x.s)) rfl ⟨by rfl, fun _ hSw => exec_load_cell _ rfl rfl ocS (HAC.out _ hSw.2.2 12 _ rfl)⟩ HS ?_
            try simp only [ly, Act.put]
            refine wpAnyH_ready (rs := [6, 12]) (by kernel_rfl) (by simp) ?_
            refine AllReadyH.cons rfl (fun KK hK => ?_) (AllReadyH.cons rfl (fun KK hK => ?_) AllReadyH.nil)
            · go_simp
              refine (HOF.out _ (by have := hxx.out; have := HS.1.lt; omega) HS.2.1).mono ?_
              rintro e w5 ho
              unfold OcP at ho
              rw [if_pos rfl] at ho
              obtain ⟨D3, v, O, rfl, hm3, hC, hO, hb⟩ := ho
              simp only at hO hm3
              have HM3 := hm3
              have HC := hC
              have HO := hI_ hO
              clear hm3 hC hO
              replace H11 := H11.later hb
              (try replace HX := HX.later hb)
              go_wp2_with fail
              refine hK.out _ _ ⟨HS.1.later hb, HS.2.1.later hb, HS.2.2.trans (hb.mono HS.2.2.size)⟩ (fun HS => ?_)
              clear hK
              try simp only [ly, Act.put]
              refine tkp (i := 7) rfl HS ?_
              try simp only [ly, Act.put]
              refine tkp (i := 8) rfl HS ?_
              try simp only [ly, Act.put]
              refine tkp (i := 9) rfl HS ?_
              try simp only [ly, Act.put]
              refine tkp (i := 10) rfl HS ?_
              try simp only [ly, Act.put]
              refine tkp (i := 11) rfl HS ?_
              try simp only [ly, Act.put]
              refine onh (r := 12) (by kernel_rfl) rfl (fun KK hK => ?_)
              obtain ⟨wa, xa, hwa, hxa, BA, HX, ZA⟩ := bk_at HS.2.2 #[.int .u64 0, .slice none 0 0, .slice none 0 0, .int .u64 0, .int .u64 0, .int .u64 0, .int .u64 0, .string ⟨#[]⟩, .slice none 0 0, .int .i64 0, .int .u64 0, .int .u64 0, .slice none 0 0, .slice none 0 0, .slice none 0 0, .int .i64 0, .int .i64 0, .int .i64 0, .int .i64 0] 34
              have hxy := hI_ (show x8 < xa ∧ x11 < xa ∧ w.heap.size ≤ xa ∧ K ≤ xa from ⟨hxa ▸ HS.1.lt, hxa ▸ H11.lt, hxa ▸ HS.2.2.size, hxa ▸ (by have := hxx.out; have := HS.1.lt; omega)⟩)
              (try replace HM3 := HM3.later BA)
              (try replace HC := HC.later BA)
              replace H11 := H11.later BA
              go_simp
              clear hwa hxa
              refine hK.out _ _ ⟨HS.1.later BA, HS.2.1.later BA, HS.2.2.trans (BA.mono HS.2.2.size)⟩ (fun HS => ?_)
              clear hK
              try simp only [ly, Act.put]
              refine onh (r := 13) (by kernel_rfl) rfl (fun KK hK => ?_)
              rw [if_pos (by rfl)]
              refine wSb _ _ rfl rfl (M := ndL Q D3) rfl nodeT HX rfl rfl rfl ?_
              intro w' hk5 hg
              have HS9 := And.intro (HS.1.grown hg (by have := hxy.out; omega)) (And.intro (HS.2.1.grown hg (by have := hxy.out; omega) HX.bx.ty bNd) (bGr HS.2.2 hg HS.2.2.size (by have := hxy.out; omega)))
              replace H11 := H11.grown hg (by have := hxy.out; omega)
              replace HM3 := HM3.grown hg (by have := hxy.out; omega) HX.bx.ty bNd
              replace HC := HC.box hg HX.bx.ty boxNm
              replace HX := hk5
              clear hk5 hg
              refine hK.out _ _ HS9 (fun HS => ?_)
              clear HS9
              clear hK
              try simp only [ly, Act.put]
              refine tkp (i := 14) rfl HS ?_
              try simp only [ly, Act.put]
              refine tkp (i := 15) rfl HS ?_
              try simp only [ly, Act.put]
              refine tkp (i := 16) rfl HS ?_
              try simp only [ly, Act.put]
              refine wpAnyH_done (by kernel_rfl) ?_ _
              obtain ⟨HN, HM, HB⟩ := HS
              go_wp2_with (first
               | (refine lBk rfl _ rfl rfl nodeT HX rfl ?_)
               | (refine sBk rfl _ _ rfl rfl (M := ndL Q D3) rfl nodeT H11 rfl rfl rfl ?_; intro w' hk5 hg; replace HN := HN.grown hg (by have := hxt.out; omega); replace HM3 := HM3.grown hg (by have := hxt.out; have := hxx.out; omega) H11.bx.ty bNd; replace HC := HC.box hg H11.bx.ty boxNm; replace HB := bGr HB hg HB.size (by have := hxt.out; omega); replace H11 := hk5; clear hk5 hg))
              go_meet
              obtain ⟨oa, oc, rfl, hOM, hl1, hl2⟩ := HC.form
              have hl3 : O.length ≤ 9223372036854775807 := by unfold maxLen at hl2; omega
              exact ⟨Q, D3, oa, O.length, oc, O, rfl, hl3, rfl, hOM, HIQ.out, HHQ.out, HIDQ.out, fun y hy => HMK.out _ (by rw [← HO.out]; exact List.mem_map_of_mem hy), HN, H11, HM3, HB⟩
            · obtain ⟨wa, xa, hwa, hxa, BA, HX, ZA⟩ := bk_at HS.2.2 #[.int .u64 0, .slice none 0 0, .slice none 0 0, .int .u64 0, .int .u64 0, .int .u64 0, .int .u64 0, .string ⟨#[]⟩, .slice none 0 0, .int .i64 0, .int .u64 0, .int .u64 0, .slice none 0 0, .slice none 0 0, .slice none 0 0, .int .i64 0, .int .i64 0, .int .i64 0, .int .i64 0] 34
              have hxy := hI_ (show x8 < xa ∧ x11 < xa ∧ w.heap.size ≤ xa ∧ K ≤ xa from ⟨hxa ▸ HS.1.lt, hxa ▸ H11.lt, hxa ▸ HS.2.2.size, hxa ▸ (by have := hxx.out; have := HS.1.lt; omega)⟩)
              (try replace HM3 := HM3.later BA)
              (try replace HC := HC.later BA)
              replace H11 := H11.later BA
              go_simp
              clear hwa hxa
              refine hK.out _ _ ⟨HS.1.later BA, HS.2.1.later BA, HS.2.2.trans (BA.mono HS.2.2.size)⟩ (fun HS => ?_)
              clear hK
              try simp only [ly, Act.put]
              refine onh (r := 6) (by kernel_rfl) rfl (fun KK hK => ?_)
              go_simp
              refine (HOF.out _ (by have := hxx.out; have := HS.1.lt; omega) HS.2.1).mono ?_
              rintro e w5 ho
              unfold OcP at ho
              rw [if_pos rfl] at ho
              obtain ⟨D3, v, O, rfl, hm3, hC, hO, hb⟩ := ho
              simp only at hO hm3
              have HM3 := hm3
              have HC := hC
              have HO := hI_ hO
              clear hm3 hC hO
              replace H11 := H11.later hb
              (try replace HX := HX.later hb)
              go_wp2_with fail
              refine hK.out _ _ ⟨HS.1.later hb, HS.2.1.later hb, HS.2.2.trans (hb.mono HS.2.2.size)⟩ (fun HS => ?_)
              clear hK
              try simp only [ly, Act.put]
              refine tkp (i := 7) rfl HS ?_
              try simp only [ly, Act.put]
              refine tkp (i := 8) rfl HS ?_
              try simp only [ly, Act.put]
              refine tkp (i := 9) rfl HS ?_
              try simp only [ly, Act.put]
              refine tkp (i := 10) rfl HS ?_
              try simp only [ly, Act.put]
              refine tkp (i := 11) rfl HS ?_
              try simp only [ly, Act.put]
              refine onh (r := 13) (by kernel_rfl) rfl (fun KK hK => ?_)
              rw [if_pos (by rfl)]
              refine wSb _ _ rfl rfl (M := ndL Q D3) rfl nodeT HX rfl rfl rfl ?_
              intro w' hk5 hg
              have HS9 := And.intro (HS.1.grown hg (by have := hxy.out; omega)) (And.intro (HS.2.1.grown hg (by have := hxy.out; omega) HX.bx.ty bNd) (bGr HS.2.2 hg HS.2.2.size (by have := hxy.out; omega)))
              replace H11 := H11.grown hg (by have := hxy.out; omega)
              replace HM3 := HM3.grown hg (by have := hxy.out; omega) HX.bx.ty bNd
              replace HC := HC.box hg HX.bx.ty boxNm
              replace HX := hk5
              clear hk5 hg
              refine hK.out _ _ HS9 (fun HS => ?_)
              clear HS9
              clear hK
              try simp only [ly, Act.put]
              refine tkp (i := 14) rfl HS ?_
              try simp only [ly, Act.put]
              refine tkp (i := 15) rfl HS ?_
              try simp only [ly, Act.put]
              refine tkp (i := 16) rfl HS ?_
              try simp only [ly, Act.put]
              refine wpAnyH_done (by kernel_rfl) ?_ _
              obtain ⟨HN, HM, HB⟩ := HS
              go_wp2_with (first
               | (refine lBk rfl _ rfl rfl nodeT HX rfl ?_)
               | (refine sBk rfl _ _ rfl rfl (M := ndL Q D3) rfl nodeT H11 rfl rfl rfl ?_; intro w' hk5 hg; replace HN := HN.grown hg (by have := hxt.out; omega); replace HM3 := HM3.grown hg (by have := hxt.out; have := hxx.out; omega) H11.bx.ty bNd; replace HC := HC.box hg H11.bx.ty boxNm; replace HB := bGr HB hg HB.size (by have := hxt.out; omega); replace H11 := hk5; clear hk5 hg))
              go_meet
              obtain ⟨oa, oc, rfl, hOM, hl1, hl2⟩ := HC.form
              have hl3 : O.length ≤ 9223372036854775807 := by unfold maxLen at hl2; omega
              exact ⟨Q, D3, oa, O.length, oc, O, rfl, hl3, rfl, hOM, HIQ.out, HHQ.out, HIDQ.out, fun y hy => HMK.out _ (by rw [← HO.out]; exact List.mem_map_of_mem hy), HN, H11, HM3, HB⟩
         · as_aux_lemma =>
            have hqp : (Q, M3) = (P, []) := by rw [← HQM.out]; unfold sendP; rw [if_neg hk1, if_neg hk2, if_pos hk3, if_neg h0]
            obtain ⟨xx, hxx0⟩ : ∃ v, offX P x.s = v := ⟨_, rfl⟩
            have HOF := hI_ (show ∀ w1, K ≤ w1.heap.size → NdM K w1 P D → Calls Tryz.prog 8 #[ndV P D, .string x.s] w1 (OcP K w1 xx (offP P x.s)) from fun w1 h1 h2 => by
             have h := pOffer_any P D hI.bd (by omega) x.s hok.s K w1 h1 h2
             rw [hxx0] at h; exact h)
            rw [hxx0] at h0
            have HO0 := hI_ h0
            have g0 : (xx == 0) = false := by simpa using h0
            clear hk1 hk2 hk3 h0 hqp hml hxx0
            go_wp2_with fail
            replace H11 := H11.later ((Below.refl _ _).drew)
            refine wp_region_held_drew (S := fun w' => Bk w' x8 34 (ndL P D) ∧ NdM K w' P D ∧ Below w.heap.size w w') (by kernel_rfl) (⟨HN.later ((Below.refl _ _).drew), HM.later ((Below.refl _ _).drew), HB.drew⟩) (fun HS => ?_)
            refine tkh (i := 0) (v := (.agg (ndL P D).toArray)) rfl ⟨by rfl, fun _ hSw => eLb _ rfl rfl nodeT hSw.1 rfl⟩ HS ?_
            try simp only [ly, Act.put]
            refine tkp (i := 1) rfl HS ?_
            try simp only [ly, Act.put]
            refine tkp (i := 2) rfl HS ?_
            try simp only [ly, Act.put]
            refine tkp (i := 3) rfl HS ?_
            try simp only [ly, Act.put]
            refine tkp (i := 4) rfl HS ?_
            refine tkh (i := 5) (v := (.string x.s)) rfl ⟨by rfl, fun _ hSw => exec_load_cell _ rfl rfl ocS (HAC.out _ hSw.2.2 12 _ rfl)⟩ HS ?_
            try simp only [ly, Act.put]
            refine wpAnyH_ready (rs := [6, 12]) (by kernel_rfl) (by simp) ?_
            refine AllReadyH.cons rfl (fun KK hK => ?_) (AllReadyH.cons rfl (fun KK hK => ?_) AllReadyH.nil)
            · go_simp
              refine (HOF.out _ (by have := hxx.out; have := HS.1.lt; omega) HS.2.1).mono ?_
              rintro e w5 ho
              unfold OcP at ho
              rw [if_neg HO0.out] at ho
              obtain ⟨rfl, hb⟩ := ho
              replace H11 := H11.later hb
              (try replace HX := HX.later hb)
              go_wp2_with fail
              refine hK.out _ _ ⟨HS.1.later hb, HS.2.1.later hb, HS.2.2.trans (hb.mono HS.2.2.size)⟩ (fun HS => ?_)
              clear hK
              try simp only [ly, Act.put]
              refine tkp (i := 7) rfl HS ?_
              try simp only [ly, Act.put]
              refine tkp (i := 8) rfl HS ?_
              try simp only [ly, Act.put]
              refine tkp (i := 9) rfl HS ?_
              try simp only [ly, Act.put]
              refine tkp (i := 10) rfl HS ?_
              try simp only [ly, Act.put]
              refine tkp (i := 11) rfl HS ?_
              try simp only [ly, Act.put]
              refine onh (r := 12) (by kernel_rfl) rfl (fun KK hK => ?_)
              obtain ⟨wa, xa, hwa, hxa, BA, HX, ZA⟩ := bk_at HS.2.2 #[.int .u64 0, .slice none 0 0, .slice none 0 0, .int .u64 0, .int .u64 0, .int .u64 0, .int .u64 0, .string ⟨#[]⟩, .slice none 0 0, .int .i64 0, .int .u64 0, .int .u64 0, .slice none 0 0, .slice none 0 0, .slice none 0 0, .int .i64 0, .int .i64 0, .int .i64 0, .int .i64 0] 34
              have hxy := hI_ (show x8 < xa ∧ x11 < xa ∧ w.heap.size ≤ xa ∧ K ≤ xa from ⟨hxa ▸ HS.1.lt, hxa ▸ H11.lt, hxa ▸ HS.2.2.size, hxa ▸ (by have := hxx.out; have := HS.1.lt; omega)⟩)
              (try replace HM3 := HM3.later BA)
              (try replace HC := HC.later BA)
              replace H11 := H11.later BA
              go_simp
              clear hwa hxa
              refine hK.out _ _ ⟨HS.1.later BA, HS.2.1.later BA, HS.2.2.trans (BA.mono HS.2.2.size)⟩ (fun HS => ?_)
              clear hK
              try simp only [ly, Act.put]
              refine onh (r := 13) (by kernel_rfl) rfl (fun KK hK => ?_)
              rw [if_pos (by rfl)]
              refine wSb _ _ rfl rfl (M := znA.toList) rfl nodeT HX rfl rfl rfl ?_
              intro w' hk5 hg
              have HS9 := And.intro (HS.1.grown hg (by have := hxy.out; omega)) (And.intro (HS.2.1.grown hg (by have := hxy.out; omega) HX.bx.ty bNd) (bGr HS.2.2 hg HS.2.2.size (by have := hxy.out; omega)))
              replace H11 := H11.grown hg (by have := hxy.out; omega)
              replace HX := hk5
              clear hk5 hg
              refine hK.out _ _ HS9 (fun HS => ?_)
              clear HS9
              clear hK
              try simp only [ly, Act.put]
              refine tkp (i := 14) rfl HS ?_
              try simp only [ly, Act.put]
              refine tkp (i := 15) rfl HS ?_
              try simp only [ly, Act.put]
              refine tkp (i := 16) rfl HS ?_
              try simp only [ly, Act.put]
              refine wpAnyH_done (by kernel_rfl) ?_ _
              go_wp2_with fail
              go_meet
              exact ⟨P, D, none, 0, 0, [], rfl, by omega, rfl, Rw.nil _, HIP.out, HHP0.out, HPID.out, (fun y hy => by cases hy), HS.1, H11, HS.2.1, HS.2.2⟩
            · obtain ⟨wa, xa, hwa, hxa, BA, HX, ZA⟩ := bk_at HS.2.2 #[.int .u64 0, .slice none 0 0, .slice none 0 0, .int .u64 0, .int .u64 0, .int .u64 0, .int .u64 0, .string ⟨#[]⟩, .slice none 0 0, .int .i64 0, .int .u64 0, .int .u64 0, .slice none 0 0, .slice none 0 0, .slice none 0 0, .int .i64 0, .int .i64 0, .int .i64 0, .int .i64 0] 34
              have hxy := hI_ (show x8 < xa ∧ x11 < xa ∧ w.heap.size ≤ xa ∧ K ≤ xa from ⟨hxa ▸ HS.1.lt, hxa ▸ H11.lt, hxa ▸ HS.2.2.size, hxa ▸ (by have := hxx.out; have := HS.1.lt; omega)⟩)
              (try replace HM3 := HM3.later BA)
              (try replace HC := HC.later BA)
              replace H11 := H11.later BA
              go_simp
              clear hwa hxa
              refine hK.out _ _ ⟨HS.1.later BA, HS.2.1.later BA, HS.2.2.trans (BA.mono HS.2.2.size)⟩ (fun HS => ?_)
              clear hK
              try simp only [ly, Act.put]
              refine onh (r := 6) (by kernel_rfl) rfl (fun KK hK => ?_)
              go_simp
              refine (HOF.out _ (by have := hxx.out; have := HS.1.lt; omega) HS.2.1).mono ?_
              rintro e w5 ho
              unfold OcP at ho
              rw [if_neg HO0.out] at ho
              obtain ⟨rfl, hb⟩ := ho
              replace H11 := H11.later hb
              (try replace HX := HX.later hb)
              go_wp2_with fail
              refine hK.out _ _ ⟨HS.1.later hb, HS.2.1.later hb, HS.2.2.trans (hb.mono HS.2.2.size)⟩ (fun HS => ?_)
              clear hK
              try simp only [ly, Act.put]
              refine tkp (i := 7) rfl HS ?_
              try simp only [ly, Act.put]
              refine tkp (i := 8) rfl HS ?_
              try simp only [ly, Act.put]
              refine tkp (i := 9) rfl HS ?_
              try simp only [ly, Act.put]
              refine tkp (i := 10) rfl HS ?_
              try simp only [ly, Act.put]
              refine tkp (i := 11) rfl HS ?_
              try simp only [ly, Act.put]
              refine onh (r := 13) (by kernel_rfl) rfl (fun KK hK => ?_)
              rw [if_pos (by rfl)]
              refine wSb _ _ rfl rfl (M := znA.toList) rfl nodeT HX rfl rfl rfl ?_
              intro w' hk5 hg
              have HS9 := And.intro (HS.1.grown hg (by have := hxy.out; omega)) (And.intro (HS.2.1.grown hg (by have := hxy.out; omega) HX.bx.ty bNd) (bGr HS.2.2 hg HS.2.2.size (by have := hxy.out; omega)))
              replace H11 := H11.grown hg (by have := hxy.out; omega)
              replace HX := hk5
              clear hk5 hg
              refine hK.out _ _ HS9 (fun HS => ?_)
              clear HS9
              clear hK
              try simp only [ly, Act.put]
              refine tkp (i := 14) rfl HS ?_
              try simp only [ly, Act.put]
              refine tkp (i := 15) rfl HS ?_
              try simp only [ly, Act.put]
              refine tkp (i := 16) rfl HS ?_
              try simp only [ly, Act.put]
              refine wpAnyH_done (by kernel_rfl) ?_ _
              go_wp2_with fail
              go_meet
              exact ⟨P, D, none, 0, 0, [], rfl, by omega, rfl, Rw.nil _, HIP.out, HHP0.out, HPID.out, (fun y hy => by cases hy), HS.1, H11, HS.2.1, HS.2.2⟩
       · as_aux_lemma =>
          have gk3 : (x.k == 3) = false := by simpa using hk3
          clear hk1 hk2 hk3
          go_wp2_with fail
          go_meet
          exact ⟨P, D, none, 0, 0, [], rfl, by omega, rfl, Rw.nil _, HIP.out, HHP0.out, HPID.out, (fun y hy => by cases hy), HN, H11, HM, HB⟩
     clear HN HM HB H11
     obtain ⟨Q, D3, oa, on, oc, O, hon, hon2, rfl, HOM, hIQ, hhQ, hidQ, hMK, HN, H11, HMQ, HB⟩ := hcut
     have HON := hI_ hon
     have HMK := hI_ hMK
     have HIDQ := hI_ hidQ
     clear hon hMK hidQ
     go_wp2_with fail
     go_loopw [17] (fun i wx => ∃ (j : Nat), j ≤ on ∧ i = .int .i64 j ∧ Mgs wx oa O ∧ Bk wx x8 34 (ndL P D) ∧ Bk wx x11 34 (ndL Q D3) ∧ NdM K wx Q D3 ∧ Below w.heap.size w wx) (fun i _ => on - (intOf i).toNat)
     case atStart => exact ⟨0, Nat.zero_le _, rfl, HOM, HN, H11, HMQ, HB⟩
     case round =>
      clear HOM HN H11 HMQ HB
      obtain ⟨j, hj, rfl, HOM, HN, H11, HMQ, HB⟩ := hrel
      by_cases hjl : j < on
      · obtain ⟨y, hy⟩ : ∃ y, O[j]? = some y := ⟨_, List.getElem?_eq_getElem (by rw [HON.out]; exact hjl)⟩
        have hmy := HMK.out y (List.mem_of_getElem? hy)
        have j0 : (0 : Int) ≤ (j : Int) := by omega
        have j1 : (j : Int) < (on : Int) := by omega
        obtain ⟨ob, oo, hoa, ho0, hoc⟩ := HOM j y hy
        subst hoa
        have hms : y.fr = id ∧ (y.dst ≠ id ∧ 1 ≤ y.dst ∧ y.dst ≤ 63) ∧ y.es.length ≤ 8 ∧ (y.kind = 2 ∨ y.kind = 4 ∨ y.kind = 7 → x.k = 2 ∧ y.dst = x.m.fr) ∧ (y.kind ≠ 1 → ¬ (y.kind = 2 ∧ y.ok = true) → y.term ≤ Q.term) ∧ (y.kind = 5 ∨ y.kind = 6 → Q.role = 3 ∧ y.term = Q.term ∧ y.commit ≤ Q.commit) := ⟨hmy.fr, hmy.dst, hmy.es, hmy.ans, hmy.term, hmy.led⟩
        have HMS := hI_ hms
        clear hmy hms hy
        have hoc' := hI_ hoc
        obtain ⟨w18, x18, hw18, hx18, B18, H18, Z18⟩ := bk_at HB #[.int .i64 y.kind, .int .u64 y.fr, .int .u64 y.dst, .int .u64 y.term, .int .u64 y.i, .int .u64 y.lt, .int .u64 y.commit, .bool y.ok, .slice y.at_ y.es.length y.cap, .string y.snap] 52
        have hx18n := hI_ (show x8 < x18 ∧ x11 < x18 from ⟨hx18 ▸ HN.lt, hx18 ▸ H11.lt⟩)
        replace HOM := HOM.later B18
        replace HN := HN.later B18
        replace H11 := H11.later B18
        replace HMQ := HMQ.later B18
        replace HB := HB.trans (B18.mono HB.size)
        clear B18 hoc
        go_upto_region 28 with (first
         | (refine wpList_load_el rfl _ rfl rfl [.int .i64 y.kind, .int .u64 y.fr, .int .u64 y.dst, .int .u64 y.term, .int .u64 y.i, .int .u64 y.lt, .int .u64 y.commit, .bool y.ok, .slice y.at_ y.es.length y.cap, .string y.snap] messT rfl hoc'.out ?_))
        clear hw18 hoc'
        simp only at H18
        have q0 := H18.bx.c 0 _ rfl
        go_cut [19] (fun sv wx => ∃ sb : Bool, sv = .bool sb ∧ (sb = true ↔ y.kind = 2 ∨ y.kind = 4 ∨ y.kind = 7) ∧ Mgs wx (some ⟨ob, oo, none⟩) O ∧ Bk wx x8 34 (ndL P D) ∧ Bk wx x11 34 (ndL Q D3) ∧ NdM K wx Q D3 ∧ Below w.heap.size w wx ∧ Bk wx x18 52 [.int .i64 y.kind, .int .u64 y.fr, .int .u64 y.dst, .int .u64 y.term, .int .u64 y.i, .int .u64 y.lt, .int .u64 y.commit, .bool y.ok, .slice y.at_ y.es.length y.cap, .string y.snap])
        case first =>
         as_aux_lemma =>
          by_cases h2 : y.kind = 2
          · have g2 : (y.kind == 2) = true := by rw [h2]; rfl
            have HY := hI_ (show y.kind = 2 ∨ y.kind = 4 ∨ y.kind = 7 by omega)
            clear h2
            go_wp2_with fail
            go_meet
            exact ⟨true, rfl, ⟨fun _ => HY.out, fun _ => rfl⟩, HOM, HN, H11, HMQ, HB, H18⟩
          · have g2 : (y.kind == 2) = false := by simpa using h2
            by_cases h4 : y.kind = 4
            · have g4 : (y.kind == 4) = true := by rw [h4]; rfl
              have HY := hI_ (show y.kind = 2 ∨ y.kind = 4 ∨ y.kind = 7 by omega)
              clear h2 h4
              go_wp2_with fail
              go_meet
              exact ⟨true, rfl, ⟨fun _ => HY.out, fun _ => rfl⟩, HOM, HN, H11, HMQ, HB, H18⟩
            · have g4 : (y.kind == 4) = false := by simpa using h4
              by_cases h7 : y.kind = 7
              · have g7 : (y.kind == 7) = true := by rw [h7]; rfl
                have HY := hI_ (show y.kind = 2 ∨ y.kind = 4 ∨ y.kind = 7 by omega)
                clear h2 h4 h7
                go_wp2_with fail
                go_meet
                exact ⟨true, rfl, ⟨fun _ => HY.out, fun _ => rfl⟩, HOM, HN, H11, HMQ, HB, H18⟩
              · have g7 : (y.kind == 7) = false := by simpa using h7
                have HY := hI_ (show ¬ (y.kind = 2 ∨ y.kind = 4 ∨ y.kind = 7) by rintro (h | h | h) <;> omega)
                clear h2 h4 h7
                go_wp2_with fail
                go_meet
                exact ⟨false, rfl, ⟨(fun h => by cases h), fun h => absurd h HY.out⟩, HOM, HN, H11, HMQ, HB, H18⟩
        clear HOM HN H11 HMQ HB H18 q0
        obtain ⟨ab, rfl, hab, HOM, HN, H11, HMQ, HB, H18⟩ := hcut
        have HAB := hI_ hab
        clear hab
        have q0 := H18.bx.c 0 _ rfl
        have q7 := H18.bx.c 7 _ rfl
        go_upto_region 29 with fail
        go_cut [20] (fun sv wx => ∃ sb : Bool, sv = .bool sb ∧ (sb = false → y.kind ≠ 1 ∧ ¬ (y.kind = 2 ∧ y.ok = true)) ∧ Mgs wx (some ⟨ob, oo, none⟩) O ∧ Bk wx x8 34 (ndL P D) ∧ Bk wx x11 34 (ndL Q D3) ∧ NdM K wx Q D3 ∧ Below w.heap.size w wx ∧ Bk wx x18 52 [.int .i64 y.kind, .int .u64 y.fr, .int .u64 y.dst, .int .u64 y.term, .int .u64 y.i, .int .u64 y.lt, .int .u64 y.commit, .bool y.ok, .slice y.at_ y.es.length y.cap, .string y.snap])
        case first =>
         as_aux_lemma =>
          by_cases h1 : y.kind = 1
          · have g1 : (y.kind == 1) = true := by rw [h1]; rfl
            clear h1
            go_wp2_with fail
            go_meet
            exact ⟨true, rfl, (fun h => by cases h), HOM, HN, H11, HMQ, HB, H18⟩
          · have g1 : (y.kind == 1) = false := by simpa using h1
            by_cases h2 : y.kind = 2
            · have g2 : (y.kind == 2) = true := by rw [h2]; rfl
              obtain ⟨yo, hyo⟩ : ∃ yo, y.ok = yo := ⟨_, rfl⟩
              have HYO := hI_ hyo
              have H1 := hI_ h1
              rw [hyo] at q7
              clear hyo h1 h2
              cases yo
              case true =>
               as_aux_lemma =>
                go_wp2_with fail
                go_meet
                exact ⟨true, rfl, (fun h => by cases h), HOM, HN, H11, HMQ, HB, H18⟩
              case false =>
               as_aux_lemma =>
                go_wp2_with fail
                go_meet
                exact ⟨false, rfl, (fun _ => ⟨H1.out, fun h => by rw [HYO.out] at h; exact absurd h.2 (by decide)⟩), HOM, HN, H11, HMQ, HB, H18⟩
            · have g2 : (y.kind == 2) = false := by simpa using h2
              have HY := hI_ (show y.kind ≠ 1 ∧ ¬ (y.kind = 2 ∧ y.ok = true) from ⟨h1, fun h => h2 h.1⟩)
              clear h1 h2
              go_wp2_with fail
              go_meet
              exact ⟨false, rfl, (fun _ => HY.out), HOM, HN, H11, HMQ, HB, H18⟩
        clear HOM HN H11 HMQ HB H18 q0 q7
        obtain ⟨pb, rfl, hpb, HOM, HN, H11, HMQ, HB, H18⟩ := hcut
        have HPB := hI_ hpb
        clear hpb
        have q1 := H18.bx.c 1 _ rfl
        have q2 := H18.bx.c 2 _ rfl
        have q3 := H18.bx.c 3 _ rfl
        have q8 := H18.bx.c 8 _ rfl
        have m3 := H11.bx.c 3 _ rfl
        have p0 := HAC.out _ HB 0 _ rfl
        have p3 := HAC.out _ HB 3 _ rfl
        have p3' := p3
        rw [Nat.add_zero] at p0
        rw [show off + k * 15 + 3 = off + k * 15 + 2 + 1 from rfl] at p3'
        go_upto_region 30 with fail
        go_cut [193] (fun bv wx => bv = .bool false ∧ Mgs wx (some ⟨ob, oo, none⟩) O ∧ Bk wx x8 34 (ndL P D) ∧ Bk wx x11 34 (ndL Q D3) ∧ NdM K wx Q D3 ∧ Below w.heap.size w wx ∧ Bk wx x18 52 [.int .i64 y.kind, .int .u64 y.fr, .int .u64 y.dst, .int .u64 y.term, .int .u64 y.i, .int .u64 y.lt, .int .u64 y.commit, .bool y.ok, .slice y.at_ y.es.length y.cap, .string y.snap])
        case first =>
         as_aux_lemma =>
          obtain ⟨a1, ⟨a2, a3, a4⟩, a5, a6, a7, _⟩ := HMS.out
          have g1 : ((y.fr : Int) == (id : Int)) = true := by simp; omega
          have g1' : ((y.fr : Int) != (id : Int)) = false := by simp; omega
          have g2 : ((y.dst : Int) == (id : Int)) = false := by simp; omega
          have g3 : decide ((y.dst : Int) < 1) = false := by simp; omega
          have g3' : ¬ (y.dst : Int) < 1 := by omega
          have g4 : decide ((63 : Int) < (y.dst : Int)) = false := by simp; omega
          have g4' : ¬ (63 : Int) < (y.dst : Int) := by omega
          have g5 : decide ((8 : Int) < (y.es.length : Int)) = false := by simp; omega
          have g5' : ¬ (8 : Int) < (y.es.length : Int) := by omega
          have a34 : 1 ≤ y.dst ∧ y.dst ≤ 63 ∧ y.es.length ≤ 8 := ⟨a3, a4, a5⟩
          have b1 : ab = true → x.k = 2 ∧ y.dst = x.m.fr := fun h => a6 (HAB.out.1 h)
          have b2 : pb = false → y.term ≤ Q.term := fun h => a7 (HPB.out h).1 (HPB.out h).2
          have HZ9 := hI_ (fun (q : Nat) => And.intro (HOM.later (below_drewN (Below.refl _ _) q)) (And.intro (HN.later (below_drewN (Below.refl _ _) q)) (And.intro (H11.later (below_drewN (Below.refl _ _) q)) (And.intro (HMQ.later (below_drewN (Below.refl _ _) q)) (And.intro (below_drewN HB q) (H18.later (below_drewN (Below.refl _ _) q)))))))
          have B1 := hI_ b1
          have B2 := hI_ b2
          clear a1 a2 a3 a4 a5 a6 a7 b1 b2
          cases ab
          case false =>
           as_aux_lemma =>
            cases pb
            case false =>
             as_aux_lemma =>
              have c1 := B2.out rfl
              have g6 : decide ((Q.term : Int) < (y.term : Int)) = false := by simp; omega
              have g6n : decide (Q.term < y.term) = false := by simp; omega
              have g6i : ¬ (Q.term : Int) < (y.term : Int) := by omega
              go_wp2_with fail
              go_quiet (fail)
              go_wp2_with fail
              go_meet
              obtain ⟨z1, z2, z3, z4, z5, z6⟩ := HZ9.out _
              exact ⟨rfl, z1, z2, z3, z4, z5, z6⟩
            case true =>
             as_aux_lemma =>
              go_wp2_with fail
              go_quiet (fail)
              go_wp2_with fail
              go_meet
              obtain ⟨z1, z2, z3, z4, z5, z6⟩ := HZ9.out _
              exact ⟨rfl, z1, z2, z3, z4, z5, z6⟩
          case true =>
           as_aux_lemma =>
            obtain ⟨d1, d2⟩ := B1.out rfl
            have g7 : (x.k == 2) = true := by rw [d1]; rfl
            have g7' : (x.k != 2) = false := by rw [d1]; rfl
            have g8 : ((y.dst : Int) == (x.m.fr : Int)) = true := by simp; omega
            have g8' : ((y.dst : Int) != (x.m.fr : Int)) = false := by simp; omega
            clear d1 d2
            cases pb
            case false =>
             as_aux_lemma =>
              have c1 := B2.out rfl
              have g6 : decide ((Q.term : Int) < (y.term : Int)) = false := by simp; omega
              have g6n : decide (Q.term < y.term) = false := by simp; omega
              have g6i : ¬ (Q.term : Int) < (y.term : Int) := by omega
              go_wp2_with fail
              go_quiet (fail)
              go_wp2_with fail
              go_meet
              obtain ⟨z1, z2, z3, z4, z5, z6⟩ := HZ9.out _
              exact ⟨rfl, z1, z2, z3, z4, z5, z6⟩
            case true =>
             as_aux_lemma =>
              go_wp2_with fail
              go_quiet (fail)
              go_wp2_with fail
              go_meet
              obtain ⟨z1, z2, z3, z4, z5, z6⟩ := HZ9.out _
              exact ⟨rfl, z1, z2, z3, z4, z5, z6⟩
        clear HOM HN H11 HMQ HB H18 q1 q2 q3 q8 m3 p0 p3 p3'
        obtain ⟨rfl, HOM, HN, H11, HMQ, HB, H18⟩ := hcut
        have q0 := H18.bx.c 0 _ rfl
        go_upto_region 32 with fail
        go_cut [21] (fun sv wx => ∃ sb : Bool, sv = .bool sb ∧ (sb = true → y.kind = 5 ∨ y.kind = 6) ∧ Mgs wx (some ⟨ob, oo, none⟩) O ∧ Bk wx x8 34 (ndL P D) ∧ Bk wx x11 34 (ndL Q D3) ∧ NdM K wx Q D3 ∧ Below w.heap.size w wx ∧ Bk wx x18 52 [.int .i64 y.kind, .int .u64 y.fr, .int .u64 y.dst, .int .u64 y.term, .int .u64 y.i, .int .u64 y.lt, .int .u64 y.commit, .bool y.ok, .slice y.at_ y.es.length y.cap, .string y.snap])
        case first =>
         as_aux_lemma =>
          by_cases h5 : y.kind = 5
          · have g5 : (y.kind == 5) = true := by rw [h5]; rfl
            have HY := hI_ (show y.kind = 5 ∨ y.kind = 6 from .inl h5)
            clear h5
            go_wp2_with fail
            go_meet
            exact ⟨true, rfl, fun _ => HY.out, HOM, HN, H11, HMQ, HB, H18⟩
          · have g5 : (y.kind == 5) = false := by simpa using h5
            by_cases h6 : y.kind = 6
            · have g6 : (y.kind == 6) = true := by rw [h6]; rfl
              have HY := hI_ (show y.kind = 5 ∨ y.kind = 6 from .inr h6)
              clear h5 h6
              go_wp2_with fail
              go_meet
              exact ⟨true, rfl, fun _ => HY.out, HOM, HN, H11, HMQ, HB, H18⟩
            · have g6 : (y.kind == 6) = false := by simpa using h6
              clear h5 h6
              go_wp2_with fail
              go_meet
              exact ⟨false, rfl, (fun h => by cases h), HOM, HN, H11, HMQ, HB, H18⟩
        clear HOM HN H11 HMQ HB H18 q0
        obtain ⟨lb, rfl, hlb, HOM, HN, H11, HMQ, HB, H18⟩ := hcut
        have HLB := hI_ hlb
        clear hlb
        have q3 := H18.bx.c 3 _ rfl
        have q6 := H18.bx.c 6 _ rfl
        have m3 := H11.bx.c 3 _ rfl
        have m9 := H11.bx.c 9 _ rfl
        have m11 := H11.bx.c 11 _ rfl
        cases lb
        case false =>
         as_aux_lemma =>
          go_wp2_with fail
          go_roundw
          case rel => exact ⟨j + 1, by omega, by go_num, HOM, HN, H11, HMQ, HB⟩
          case measure => simp [intOf]; omega
        case true =>
         as_aux_lemma =>
          obtain ⟨l1, l2, l3⟩ := HMS.out.2.2.2.2.2 (HLB.out rfl)
          have g1 : (Q.role == 3) = true := by rw [l1]; rfl
          have g1' : (Q.role != 3) = false := by rw [l1]; rfl
          have g2 : ((y.term : Int) == (Q.term : Int)) = true := by simp; omega
          have g2' : ((y.term : Int) != (Q.term : Int)) = false := by simp; omega
          have g3 : decide ((Q.commit : Int) < (y.commit : Int)) = false := by simp; omega
          have g3n : decide (Q.commit < y.commit) = false := by simp; omega
          have g3i : ¬ (Q.commit : Int) < (y.commit : Int) := by omega
          clear l1 l2
          go_wp2_with fail
          go_roundw
          case rel => exact ⟨j + 1, by omega, by go_num, HOM, HN, H11, HMQ, HB⟩
          case measure => simp [intOf]; omega
      · obtain rfl : j = on := by omega
        have j1 : ¬ (j : Int) < (j : Int) := by omega
        go_wp2_with (first
         | (refine lBk rfl _ rfl rfl nodeT H11 rfl ?_)
         | (refine sBk rfl _ _ rfl rfl (M := ndL Q D3) rfl nodeT HN rfl rfl rfl ?_; intro w' hk5 hg; replace HMQ := HMQ.grown hg (by have := hxx.out; omega) HN.bx.ty bNd; replace HB := bGr HB hg HB.size (by have := hxx.out; omega); replace HN := hk5; clear hk5 hg))
        go_roundw
        case rel => exact ⟨k + 1, Q, D3, by omega, by go_num, HIDQ.out, HN, HMQ, hIQ, hhQ, HB⟩
        case measure => simp [intOf]; omega
   · obtain rfl : k = n := by omega
     have i1 : ¬ (k : Int) < (k : Int) := by omega
     go_wp2_with fail
     go_ret
     exact ⟨rfl, HB⟩
end Go.Proofs.YtdcpiaoadbbdoaaGreat
