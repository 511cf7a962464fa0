/- An order that decides: the program's. -/
import Derived.Test.YtohhkacnjhgamaaPl
namespace Go.Proofs.Ytohhkacnjhgamaa
open Go.RowKit Go.Maps

theorem DcP.drew {B : Nat} {w : World} {r : List Dl × Nat × Bool} {e : Ending} {w' : World} (h : DcP B w r e w') : DcP B w r e w'.drew := by
  obtain ⟨A, h1, h2, h3, h4⟩ := h
  have hd : Below w'.heap.size w' w'.drew := (Below.refl _ _).drew
  exact ⟨A, h1, h2.later hd, fun y hy => (h3 y hy).mono (Nat.le_refl _) hd.size, h4.drew⟩
set_option maxRecDepth 100000 in
set_option maxHeartbeats 8000000 in
theorem decide_any (B : Nat) (L : List Dl) (A : Cad) (o : Cod) (key : ByteArray) (q : Option Addr) (qn qc : Nat) (a : Option Addr) (c : Nat) (w : World) (hC : CoC B w L A) (hB : B ≤ w.heap.size) (hl : L.length ≤ 140737488351232) (ho : ∀ x ∈ L, okX x.t) (hox : okX o.t) :
    Calls Try.prog 29 #[coV L A, odV o key q qn qc a c] w (DcP B w (dcdC L o.t o.cm)) := by
  obtain ⟨n, hn⟩ : ∃ n, L.length = n := ⟨_, rfl⟩
  obtain ⟨kd, ⟨ta, ti⟩, P, cm⟩ := o
  simp only at hox ⊢
  obtain ⟨W, hW⟩ : ∃ W, waW L A ⟨kd, ⟨ta, ti⟩, P, cm⟩ key q qn qc a c w = W := ⟨_, rfl⟩
  obtain ⟨x, hx⟩ : ∃ x, w.heap.size = x := ⟨_, rfl⟩
  obtain ⟨hK, hBW, hs⟩ := waW_box hW hx
  rw [hn] at hK
  have HPL := Lib.hid (show ∀ w', Below W.heap.size W w' → Calls Try.prog 17 #[.agg #[.slice A.a n A.c]] w' (PlP w' L) from fun w' h => by have := places_any L A w' ((hC.m.later hBW).later h) hl ho; unfold coV at this; rw [hn] at this; exact this)
  have HC := Lib.hid (hC.later hBW)
  have HC0 := Lib.hid hC
  have HLP := Lib.hid hC.lp
  have HBW := Lib.hid hBW
  have HK := Lib.hid hK
  have HS := Lib.hid hs
  have HN := Lib.hid hn
  have HX := Lib.hid hx
  have HW := Lib.hid hW
  have HBB := Lib.hid hB
  have HOX := Lib.hid hox
  obtain ⟨pn, hpn⟩ : ∃ n, P.length = n := ⟨_, rfl⟩
  have HPN := Lib.hid hpn
  obtain ⟨r, hr⟩ : ∃ r, dcdC L ⟨ta, ti⟩ cm = r := ⟨_, rfl⟩
  rw [hr]
  have HR := Lib.hid hr
  show Calls Try.prog 29 #[.agg #[.slice A.a L.length A.c], .agg #[.int .i64 kd, .int .u64 (ta : Nat), .int .u64 (ti : Nat), .string key, .slice q qn qc, .bool cm, .slice a P.length c]] w _
  rw [hn, hpn]
  have HWX := Lib.hid (show (((w.alloc (.cells #[.slice A.a n A.c] 24)).alloc (.cells #[.int .i64 kd, .int .u64 (ta : Nat), .int .u64 (ti : Nat), .string key, .slice q qn qc, .bool cm, .slice a pn c] 46)).alloc (.cells #[.slice none 0 0] 24)).alloc (.cells #[.int .i64 0, .string ⟨#[]⟩, .int .u64 0, .bool false, .bool false] 41) = W from by rw [← hn, ← hpn]; exact hW)
  clear hC hB hox ho hK hBW hs hn hx hW hpn hr
  go_enter Try.func29, Try.ntmps29
  go_upto_region 1 with (fail)
  rw [HWX.out, HX.out]
  have S0 : W.drew.cell? ⟨x, 0, none⟩ = some (.slice A.a n A.c) ∧ W.drew.cell? ⟨x + 1, 1, none⟩ = some (.int .u64 (ta : Nat)) ∧ W.drew.cell? ⟨x + 1, 2, none⟩ = some (.int .u64 (ti : Nat)) := ⟨HK.out.cc, HK.out.t0, HK.out.t1⟩
  have HDR := Lib.hid (show Below W.heap.size W W.drew from (Below.refl _ _).drew)
  refine tillK_begin (S := fun w' => w'.cell? ⟨x, 0, none⟩ = some (.slice A.a n A.c) ∧ w'.cell? ⟨x + 1, 1, none⟩ = some (.int .u64 (ta : Nat)) ∧ w'.cell? ⟨x + 1, 2, none⟩ = some (.int .u64 (ti : Nat))) (k := 9) (by kernel_rfl) ?_
  refine tillK_take (i := 2) (v := .pointer (some ⟨x + 1, 1, none⟩)) rfl (by kernel_rfl) (by kernel_rfl) (by kernel_rfl) (by kernel_rfl) (by kernel_rfl) (by kernel_rfl) (fun _ _ _ h => h) (Or.inl ⟨by rfl, ?hyl_2⟩) (by assumption) ?restl_2
  case hyl_2 =>
    rintro w' ⟨e0, e1, e2⟩
    go_simp
  try simp only [List.getElem_toArray, List.getElem_cons_succ, List.getElem_cons_zero, Act.put, List.setIfInBounds_toArray, List.set_cons_zero, List.set_cons_succ]
  refine tillK_take (i := 3) (v := .agg #[.int .u64 (ta : Nat), .int .u64 (ti : Nat)]) rfl (by kernel_rfl) (by kernel_rfl) (by kernel_rfl) (by kernel_rfl) (by kernel_rfl) (by kernel_rfl) (fun _ _ _ h => h) (Or.inl ⟨by rfl, ?hyl_3⟩) (by assumption) ?restl_3
  case hyl_3 =>
    rintro w' ⟨e0, e1, e2⟩
    go_simp
  try simp only [List.getElem_toArray, List.getElem_cons_succ, List.getElem_cons_zero, Act.put, List.setIfInBounds_toArray, List.set_cons_zero, List.set_cons_succ]
  refine tillK_step (i := 0) (by kernel_rfl) rfl (by rfl) ?_
  intro Kl_0 hKl_0
  have HKl_0 := Lib.hid hKl_0
  clear hKl_0
  go_wp2_with fail
  refine HKl_0.out.out _ _ (fun _ => S0) ?_
  refine tillK_step (i := 1) (by kernel_rfl) rfl (by rfl) ?_
  intro Kl_1 hKl_1
  have HKl_1 := Lib.hid hKl_1
  clear hKl_1
  go_wp2_with fail
  refine (HPL.out _ HDR.out).mono ?_
  rintro e w1 ⟨mb, mn, D, rfl, hT, hD, _, _, hb1⟩
  have hB1 := HDR.out.trans (hb1.mono HDR.out.size)
  have HB1 := Lib.hid hB1
  have HK1 := Lib.hid (HK.out.later hB1)
  have S1 : w1.cell? ⟨x, 0, none⟩ = some (.slice A.a n A.c) ∧ w1.cell? ⟨x + 1, 1, none⟩ = some (.int .u64 (ta : Nat)) ∧ w1.cell? ⟨x + 1, 2, none⟩ = some (.int .u64 (ti : Nat)) := ⟨HK1.out.cc, HK1.out.t0, HK1.out.t1⟩
  obtain ⟨v, hlk, hv⟩ := look_run hT hD HOX.out
  obtain ⟨px, hpx⟩ : ∃ p, pixC ⟨ta, ti⟩ 0 L = p := ⟨_, rfl⟩
  rw [hpx] at hlk hv
  obtain ⟨pb, hpb⟩ : ∃ p, px.isSome = p := ⟨_, rfl⟩
  rw [hpb] at hlk
  simp only at hlk
  have HPB := Lib.hid hpb
  have HV := Lib.hid hv
  have HPX := Lib.hid hpx
  clear hT hD hb1 hB1 hpx hpb hv S0
  dsimp only
  refine HKl_1.out.out _ _ (fun _ => S1) ?_
  refine tillK_step (i := 4) (by kernel_rfl) rfl (by rfl) ?_
  intro Kl_4 hKl_4
  have HKl_4 := Lib.hid hKl_4
  clear hKl_4
  go_wp2_with fail
  refine HKl_4.out.out _ _ (fun _ => S1) ?_
  clear hlk
  refine tillK_step (i := 5) (by kernel_rfl) rfl (by rfl) ?_
  intro Kl_5 hKl_5
  have HKl_5 := Lib.hid hKl_5
  clear hKl_5
  go_wp2_with fail
  refine HKl_5.out.out _ _ (fun _ => S1) ?_
  refine tillK_take (i := 6) (v := .int .i64 v) rfl (by kernel_rfl) (by kernel_rfl) (by kernel_rfl) (by kernel_rfl) (by kernel_rfl) (by kernel_rfl) (fun _ _ _ h => h) (Or.inl ⟨by rfl, ?hyl_6⟩) (by assumption) ?restl_6
  case hyl_6 =>
    rintro w' ⟨e0, e1, e2⟩
    go_simp
  try simp only [List.getElem_toArray, List.getElem_cons_succ, List.getElem_cons_zero, Act.put, List.setIfInBounds_toArray, List.set_cons_zero, List.set_cons_succ]
  refine tillK_take (i := 7) (v := .bool pb) rfl (by kernel_rfl) (by kernel_rfl) (by kernel_rfl) (by kernel_rfl) (by kernel_rfl) (by kernel_rfl) (fun _ _ _ h => h) (Or.inl ⟨by rfl, ?hyl_7⟩) (by assumption) ?restl_7
  case hyl_7 =>
    rintro w' ⟨e0, e1, e2⟩
    go_simp
  try simp only [List.getElem_toArray, List.getElem_cons_succ, List.getElem_cons_zero, Act.put, List.setIfInBounds_toArray, List.set_cons_zero, List.set_cons_succ]
  refine tillK_step (i := 8) (by kernel_rfl) rfl (by rfl) ?_
  intro Kl_8 hKl_8
  have HKl_8 := Lib.hid hKl_8
  clear hKl_8
  go_wp2_with fail
  refine HKl_8.out.out _ _ (fun _ => S1) ?_
  refine tillK_step (i := 9) (by kernel_rfl) rfl (by rfl) ?_
  intro Kl_9 hKl_9
  have HKl_9 := Lib.hid hKl_9
  clear hKl_9
  go_wp2_with fail
  refine HKl_9.out.out _ _ (fun h => by simp at h) ?_
  refine tillK_done (by kernel_rfl) ?_
  clear S1
  have cm1 := HK1.out.cm
  simp only at cm1
  cases pb
  case false =>
    obtain rfl : px = none := by
      cases px
      · rfl
      · have := HPB.out; cases this
    have hfn := pix_none HPX.out
    cases cm
    case true =>
      obtain rfl : r = (L, 7, false) := by rw [← HR.out]; unfold dcdC; rw [hfn]; rfl
      clear hfn
      have HFIN := Lib.hid (show DcP B w (L, 7, false) (.returned (.tuple #[.agg #[.slice A.a n A.c], anV 7 false])) (finW w1 (x + 1 + 1) (x + 1 + 1 + 1) L A 7 false) from by
        have hx := HX.out
        obtain ⟨m1, m2, m3⟩ := HK1.out.r.fin (HC.out.m.later HB1.out) 7 false (fun y hy => ⟨(HLP.out y hy).ne (.inr (by omega)), (HLP.out y hy).ne (.inr (by omega))⟩)
        have hb0 := HBW.out.trans (HB1.out.mono HBW.out.size)
        have hb : Below w.heap.size w (finW w1 (x + 1 + 1) (x + 1 + 1 + 1) L A 7 false) := hb0.trans (m2 _ (Below.refl _ _) (by omega))
        exact ⟨A, by rw [← HN.out], m1, fun y hy => (HLP.out y hy).mono (Nat.le_refl _) hb.size, hb.mono HBB.out⟩)
      simp only [finW, set5a, HN.out] at HFIN
      obtain ⟨u0, e0⟩ := HK1.out.r.s.so 0 (by decide)
      obtain ⟨v0, f0⟩ := HK1.out.r.a.so 0 (by decide)
      obtain ⟨v1, f1⟩ := HK1.out.r.a.so 1 (by decide)
      obtain ⟨v2, f2⟩ := HK1.out.r.a.so 2 (by decide)
      obtain ⟨v3, f3⟩ := HK1.out.r.a.so 3 (by decide)
      obtain ⟨v4, f4⟩ := HK1.out.r.a.so 4 (by decide)
      have z4 := HK1.out.r.s.fz
      have z5 := HK1.out.r.a.fz
      have cc := HK1.out.cc
      go_wp2_with fail
      refine bodyPost_ret (v := .tuple #[.agg #[.slice A.a n A.c], anV 7 false]) (by simp [results, Try.results29, go_sem, e0, f0, f1, f2, f3, f4]) rfl ?_
      exact HFIN.out
    have hr2 : r = if 64 ≤ L.length then (L, 5, false) else (L ++ [⟨⟨ta, ti⟩, [], 2⟩], 0, false) := by rw [← HR.out]; unfold dcdC; rw [hfn]; rfl
    have hbs : B ≤ w1.heap.size := by have := HBB.out; have := HBW.out.size; have := HB1.out.size; omega
    have had := added_any B L A ⟨⟨⟨ta, ti⟩, [], 2⟩, none, 0⟩ w1 (HC.out.later HB1.out) hbs (fun k x hx => by simp at hx) (fun q e => by cases e) ⟨Nat.le_refl _, Nat.zero_le _⟩ (fun q _ r e => by cases e)
    simp only at had
    rw [← hr2] at had
    unfold coV dlV at had
    rw [HN.out] at had
    simp only [List.length_nil] at had
    have HAD := Lib.hid had
    have cc := HK1.out.cc
    have tt0 := HK1.out.t0
    have tt1 := HK1.out.t1
    simp only at tt0 tt1
    clear hfn hr2 hbs had
    go_wp2_with fail
    refine HAD.out.mono ?_
    rintro e w2 ⟨⟨A2, rfl, hM2, hom, hb2⟩, rr, hg, hgr⟩
    obtain ⟨⟨L2, n2, b2⟩, hr2⟩ : ∃ z, r = z := ⟨_, rfl⟩
    subst hr2
    obtain ⟨g, hG, hgA⟩ := grown_some hg
    have hxx := HX.out
    have hw2s := hG.size
    have hw1s := HB1.out.size
    have hsW := HS.out
    have hgx : g < x ∨ x + 1 + 1 + 1 < g := by
      rcases hgA with e | e
      · obtain ⟨p, e1, rfl⟩ := hgr g e
        have := HC0.out.lo p e1
        exact .inl (by omega)
      · exact .inr (by omega)
    have HK2 := Lib.hid (HK1.out.grown hG hgx)
    have HFIN := Lib.hid (show DcP B w (L2, n2, b2) (.returned (.tuple #[.agg #[.slice A2.a L2.length A2.c], anV n2 b2])) (finW w2 (x + 1 + 1) (x + 1 + 1 + 1) L2 A2 n2 b2) from by
      have hpl : ∀ y ∈ A2.om, LI y.a B w.heap.size := fun y hy => by
        rcases hom with e | e
        · rw [e] at hy; exact HLP.out y hy
        · rw [e] at hy
          rcases List.mem_append.1 hy with h | h
          · exact HLP.out y h
          · obtain rfl : y = ⟨⟨⟨ta, ti⟩, [], 2⟩, none, 0⟩ := by simpa using h
            intro q e; cases e
      obtain ⟨m1, m2, m3⟩ := HK2.out.r.fin hM2 n2 b2 (fun y hy => ⟨(hpl y hy).ne (.inr (by omega)), (hpl y hy).ne (.inr (by omega))⟩)
      have hBl := HBB.out
      have hb0 : Below B w w2 := ((HBW.out.trans (HB1.out.mono HBW.out.size)).mono hBl).trans hb2
      have hb : Below B w (finW w2 (x + 1 + 1) (x + 1 + 1 + 1) L2 A2 n2 b2) := hb0.trans (m2 _ (Below.refl _ _) (by omega))
      exact ⟨A2, rfl, m1, fun y hy => (hpl y hy).mono (Nat.le_refl _) hb.size, hb⟩)
    simp only [finW, set5a] at HFIN
    obtain ⟨u0, e0⟩ := HK2.out.r.s.so 0 (by decide)
    obtain ⟨v0, f0⟩ := HK2.out.r.a.so 0 (by decide)
    obtain ⟨v1, f1⟩ := HK2.out.r.a.so 1 (by decide)
    obtain ⟨v2, f2⟩ := HK2.out.r.a.so 2 (by decide)
    obtain ⟨v3, f3⟩ := HK2.out.r.a.so 3 (by decide)
    obtain ⟨v4, f4⟩ := HK2.out.r.a.so 4 (by decide)
    have z4 := HK2.out.r.s.fz
    have z5 := HK2.out.r.a.fz
    clear hM2 hom hb2 hg hgr hG hgA hxx hw2s hw1s hsW hgx cc tt0 tt1 cm1
    go_wp2_with fail
    refine bodyPost_ret (v := .tuple #[.agg #[.slice A2.a L2.length A2.c], anV n2 b2]) (by simp [results, Try.results29, go_sem, e0, f0, f1, f2, f3, f4]) rfl ?_
    exact HFIN.out
  obtain ⟨k, rfl⟩ : ∃ k, px = some k := by
    cases px
    · have := HPB.out; cases this
    · exact ⟨_, rfl⟩
  obtain rfl : v = (k : Nat) := HV.out k rfl
  obtain ⟨d, hd, hfd⟩ := pix_some HPX.out
  obtain ⟨y, hy, hyx, hym⟩ := deal_at HC.out.m hd
  subst hyx
  have hkl : k < n := by rw [← HN.out]; exact (List.getElem?_eq_some_iff.1 hd).1
  have hol : A.om.length = n := by rw [HC.out.m.olen, HN.out]
  obtain ⟨g, c', e, hBg, _, _, hdh⟩ := Hd.of dlT (HC.out.later HB1.out).row (by omega)
  injection e with ea _ ec
  have hgx : g < x := by have h1 := (HC0.out.lo _ ea).2; have h2 := HX.out; simp only at h1; omega
  obtain ⟨b, off, e2, hgl, p0, p1, p2, p3⟩ := Dlm.cells (HC.out.later HB1.out).m.row hy
  rw [ea] at e2
  injection e2 with e2
  injection e2 with e3 e4
  subst e3 e4
  rw [Nat.zero_add] at p3
  have zf := hdh.fz (k * 4 + 3)
  have cc := HK1.out.cc
  rw [ea] at cc
  have HEA := Lib.hid ea
  have i0 : (0 : Int) ≤ (k : Int) := by omega
  have i1 : (k : Int) < (n : Int) := by omega
  have i2 : ¬ (k : Int) < 0 := by omega
  obtain ⟨⟨⟨ya, yi⟩, yp, ys⟩, yl, yc⟩ := y
  simp only at p0 p1 p2 p3 hfd hd
  have HY := Lib.hid hy
  have HD := Lib.hid hd
  have HFD := Lib.hid hfd
  clear ea ec hd hfd hy hym hol hBg hdh p0 p1 p2
  by_cases hs0 : ys = 0
  case neg =>
    have hr2 : r = (L, 0, decide (ys = 1)) := by
      rw [← HR.out]; unfold dcdC
      rw [HFD.out]
      simp only [endC, hs0, if_false]
      rw [show setC ⟨ta, ti⟩ ys L = L from set_noop HPX.out HD.out]
    obtain ⟨bb, hbb⟩ : ∃ b, decide (ys = 1) = b := ⟨_, rfl⟩
    rw [hbb] at hr2
    subst hr2
    have g1 : (ys == 0) = false := by simpa using hs0
    have g2 : (ys == 1) = bb := by rw [← hbb]; rw [Bool.eq_iff_iff]; simp
    clear hbb hs0
    go_upto_region 8 with (fail)
    have S1 : w1.drew.cell? ⟨x, 0, none⟩ = some (.slice (some ⟨g, 0, none⟩) n A.c) ∧ w1.drew.cell? ⟨g, k * 4 + 3, none⟩ = some (.int .i64 ys) := ⟨cc, p3⟩
    have HFIN := Lib.hid (show DcP B w (L, 0, bb) (.returned (.tuple #[.agg #[.slice A.a n A.c], anV 0 bb])) (finW w1 (x + 1 + 1) (x + 1 + 1 + 1) L A 0 bb).drew from by
      apply DcP.drew
      have hx := HX.out
      obtain ⟨m1, m2, m3⟩ := HK1.out.r.fin (HC.out.m.later HB1.out) 0 bb (fun y hy => ⟨(HLP.out y hy).ne (.inr (by omega)), (HLP.out y hy).ne (.inr (by omega))⟩)
      have hb0 := HBW.out.trans (HB1.out.mono HBW.out.size)
      have hb : Below w.heap.size w (finW w1 (x + 1 + 1) (x + 1 + 1 + 1) L A 0 bb) := hb0.trans (m2 _ (Below.refl _ _) (by omega))
      exact ⟨A, by rw [← HN.out], m1, fun y hy => (HLP.out y hy).mono (Nat.le_refl _) hb.size, hb.mono HBB.out⟩)
    simp only [finW, set5a, HN.out, HEA.out] at HFIN
    obtain ⟨u0, e0⟩ := HK1.out.r.s.so 0 (by decide)
    obtain ⟨v0, f0⟩ := HK1.out.r.a.so 0 (by decide)
    obtain ⟨v1, f1⟩ := HK1.out.r.a.so 1 (by decide)
    obtain ⟨v2, f2⟩ := HK1.out.r.a.so 2 (by decide)
    obtain ⟨v3, f3⟩ := HK1.out.r.a.so 3 (by decide)
    obtain ⟨v4, f4⟩ := HK1.out.r.a.so 4 (by decide)
    have z4 := HK1.out.r.s.fz
    have z5 := HK1.out.r.a.fz
    have HS9 := Lib.hid (fun v => (show (w1.setCell ⟨x + 1 + 1, 0, none⟩ v).drew.cell? ⟨x, 0, none⟩ = some (.slice (some ⟨g, 0, none⟩) n A.c) ∧ (w1.setCell ⟨x + 1 + 1, 0, none⟩ v).drew.cell? ⟨g, k * 4 + 3, none⟩ = some (.int .i64 ys) from ⟨(World.cell?_setCell_far _ _ _ _ (by simp only; omega)).trans S1.1, (World.cell?_setCell_far _ _ _ _ (by simp only; omega)).trans S1.2⟩))
    clear cc p3 zf cm1
    refine tillK_begin (S := fun w' => w'.cell? ⟨x, 0, none⟩ = some (.slice (some ⟨g, 0, none⟩) n A.c) ∧ w'.cell? ⟨g, k * 4 + 3, none⟩ = some (.int .i64 ys)) (k := 10) (by kernel_rfl) ?_
    refine tillK_take (i := 0) (v := .agg #[.slice (some ⟨g, 0, none⟩) n A.c]) rfl (by kernel_rfl) (by kernel_rfl) (by kernel_rfl) (by kernel_rfl) (by kernel_rfl) (by kernel_rfl) (fun _ _ _ h => h) (Or.inl ⟨by rfl, ?hym_0⟩) (by assumption) ?restm_0
    case hym_0 =>
      rintro w' ⟨e0, e1⟩
      go_simp
    try simp only [List.getElem_toArray, List.getElem_cons_zero, Act.put, List.setIfInBounds_toArray, List.set_cons_zero, List.set_cons_succ]
    refine tillK_take (i := 1) (v := .pointer (some ⟨x, 0, none⟩)) rfl (by kernel_rfl) (by kernel_rfl) (by kernel_rfl) (by kernel_rfl) (by kernel_rfl) (by kernel_rfl) (fun _ _ _ h => h) (Or.inl ⟨by rfl, ?hym_1⟩) (by assumption) ?restm_1
    case hym_1 =>
      rintro w' ⟨e0, e1⟩
      go_simp
    try simp only [List.getElem_toArray, List.getElem_cons_succ, List.getElem_cons_zero, Act.put, List.setIfInBounds_toArray, List.set_cons_zero, List.set_cons_succ]
    refine tillK_take (i := 2) (v := .slice (some ⟨g, 0, none⟩) n A.c) rfl (by kernel_rfl) (by kernel_rfl) (by kernel_rfl) (by kernel_rfl) (by kernel_rfl) (by kernel_rfl) (fun _ _ _ h => h) (Or.inl ⟨by rfl, ?hym_2⟩) (by assumption) ?restm_2
    case hym_2 =>
      rintro w' ⟨e0, e1⟩
      go_simp
    try simp only [List.getElem_toArray, List.getElem_cons_succ, List.getElem_cons_zero, Act.put, List.setIfInBounds_toArray, List.set_cons_zero, List.set_cons_succ]
    refine tillK_take (i := 3) (v := .int .i64 k) rfl (by kernel_rfl) (by kernel_rfl) (by kernel_rfl) (by kernel_rfl) (by kernel_rfl) (by kernel_rfl) (fun _ _ _ h => h) (Or.inl ⟨by rfl, ?hym_3⟩) (by assumption) ?restm_3
    case hym_3 =>
      rintro w' ⟨e0, e1⟩
      go_simp
    try simp only [List.getElem_toArray, List.getElem_cons_succ, List.getElem_cons_zero, Act.put, List.setIfInBounds_toArray, List.set_cons_zero, List.set_cons_succ]
    refine tillK_take (i := 4) (v := .pointer (some ⟨g, k * 4, none⟩)) rfl (by kernel_rfl) (by kernel_rfl) (by kernel_rfl) (by kernel_rfl) (by kernel_rfl) (by kernel_rfl) (fun _ _ _ h => h) (Or.inl ⟨by rfl, ?hym_4⟩) (by assumption) ?restm_4
    case hym_4 =>
      rintro w' ⟨e0, e1⟩
      go_simp
    try simp only [List.getElem_toArray, List.getElem_cons_succ, List.getElem_cons_zero, Act.put, List.setIfInBounds_toArray, List.set_cons_zero, List.set_cons_succ]
    refine tillK_take (i := 5) (v := .pointer (some ⟨g, k * 4 + 3, none⟩)) rfl (by kernel_rfl) (by kernel_rfl) (by kernel_rfl) (by kernel_rfl) (by kernel_rfl) (by kernel_rfl) (fun _ _ _ h => h) (Or.inl ⟨by rfl, ?hym_5⟩) (by assumption) ?restm_5
    case hym_5 =>
      rintro w' ⟨e0, e1⟩
      go_simp
    try simp only [List.getElem_toArray, List.getElem_cons_succ, List.getElem_cons_zero, Act.put, List.setIfInBounds_toArray, List.set_cons_zero, List.set_cons_succ]
    refine tillK_take (i := 6) (v := .int .i64 ys) rfl (by kernel_rfl) (by kernel_rfl) (by kernel_rfl) (by kernel_rfl) (by kernel_rfl) (by kernel_rfl) (fun _ _ _ h => h) (Or.inl ⟨by rfl, ?hym_6⟩) (by assumption) ?restm_6
    case hym_6 =>
      rintro w' ⟨e0, e1⟩
      go_simp
    try simp only [List.getElem_toArray, List.getElem_cons_succ, List.getElem_cons_zero, Act.put, List.setIfInBounds_toArray, List.set_cons_zero, List.set_cons_succ]
    refine tillK_take (i := 7) (v := .bool bb) rfl (by kernel_rfl) (by kernel_rfl) (by kernel_rfl) (by kernel_rfl) (by kernel_rfl) (by kernel_rfl) (fun _ _ _ h => h) (Or.inl ⟨by rfl, ?hym_7⟩) (by assumption) ?restm_7
    case hym_7 =>
      rintro w' ⟨e0, e1⟩
      go_simp
    try simp only [List.getElem_toArray, List.getElem_cons_succ, List.getElem_cons_zero, Act.put, List.setIfInBounds_toArray, List.set_cons_zero, List.set_cons_succ]
    refine tillK_take (i := 8) (v := .agg #[.int .i64 0, .string ⟨#[]⟩, .int .u64 0, .bool false, .bool bb]) rfl (by kernel_rfl) (by kernel_rfl) (by kernel_rfl) (by kernel_rfl) (by kernel_rfl) (by kernel_rfl) (fun _ _ _ h => h) (Or.inl ⟨by rfl, ?hym_8⟩) (by assumption) ?restm_8
    case hym_8 =>
      rintro w' ⟨e0, e1⟩
      go_simp
    try simp only [List.getElem_toArray, List.getElem_cons_succ, List.getElem_cons_zero, Act.put, List.setIfInBounds_toArray, List.set_cons_zero, List.set_cons_succ]
    refine tillK_step (i := 9) (by kernel_rfl) rfl (by rfl) ?_
    intro Km_9 hKm_9
    have HKm_9 := Lib.hid hKm_9
    clear hKm_9
    go_wp2_with fail
    refine HKm_9.out.out _ _ (fun _ => HS9.out _) ?_
    refine tillK_step (i := 10) (by kernel_rfl) rfl (by rfl) ?_
    intro Km_10 hKm_10
    have HKm_10 := Lib.hid hKm_10
    clear hKm_10
    go_wp2_with fail
    refine HKm_10.out.out _ _ (fun h => by simp at h) ?_
    refine tillK_done (by kernel_rfl) ?_
    go_wp2_with fail
    refine bodyPost_ret (v := .tuple #[.agg #[.slice (some ⟨g, 0, none⟩) n A.c], anV 0 bb]) (by simp [results, Try.results29, go_sem, e0, f0, f1, f2, f3, f4]) rfl ?_
    exact HFIN.out
  subst hs0
  obtain ⟨st, hst⟩ : ∃ s : Int, (if cm = true then 1 else 2) = s := ⟨_, rfl⟩
  have hr2 : r = (L.set k ⟨⟨ya, yi⟩, yp, st⟩, 0, cm) := by
    rw [← HR.out]; unfold dcdC
    rw [HFD.out]
    simp only [endC, if_true]
    rw [hst, set_pix (k := k) (by rw [HPX.out, Nat.zero_add]) HD.out, ← hst]
    cases cm <;> rfl
  subst hr2
  have hput := (HC.out.later HB1.out).put HY.out st HEA.out
  simp only at hput
  have HOC := Lib.hid (show ∀ w', Calls Try.prog 34 #[.bool cm] w' fun e w2 => e = .returned (.int .i64 st) ∧ w2 = w' from fun w' => by rw [← hst]; exact outcome_any cm w')
  have g2 : (st == 1) = cm := by rw [← hst]; cases cm <;> rfl
  clear hst
  obtain ⟨V, hV⟩ : ∃ V, (w1.setCell ⟨g, k * 4 + 3, none⟩ (.int .i64 st)).drew = V := ⟨_, rfl⟩
  have hgr := sc_one w1 g (k * 4 + 3) (.int .i64 st)
  have hd : Below (w1.setCell ⟨g, k * 4 + 3, none⟩ (.int .i64 st)).heap.size (w1.setCell ⟨g, k * 4 + 3, none⟩ (.int .i64 st)) (w1.setCell ⟨g, k * 4 + 3, none⟩ (.int .i64 st)).drew := (Below.refl _ _).drew
  have hKV := (HK1.out.grown hgr (.inl hgx)).later hd
  have hMV := hput.later hd
  have hgB : B ≤ g := (HC0.out.lo _ HEA.out).1
  have hBV : Below B w (w1.setCell ⟨g, k * 4 + 3, none⟩ (.int .i64 st)).drew := ((((HBW.out.trans (HB1.out.mono HBW.out.size)).mono HBB.out).grown hgr (by have := HBB.out; have := HBW.out.size; have := HB1.out.size; omega) (fun z e => by cases e; exact hgB))).drew
  have hpV : (w1.setCell ⟨g, k * 4 + 3, none⟩ (.int .i64 st)).drew.cell? ⟨g, k * 4 + 3, none⟩ = some (.int .i64 st) := show (w1.setCell ⟨g, k * 4 + 3, none⟩ (.int .i64 st)).cell? ⟨g, k * 4 + 3, none⟩ = some (.int .i64 st) by simp [go_sem, p3]
  rw [hV] at hKV hMV hBV hpV
  have HKV := Lib.hid hKV
  have HMV := Lib.hid hMV
  have HBV := Lib.hid hBV
  have HPV := Lib.hid hpV
  have HV := Lib.hid hV
  have HGX := Lib.hid hgx
  clear hput hgr hd hKV hMV hgB hBV hpV hV
  go_upto_region 7 with (fail)
  have S1 : w1.drew.cell? ⟨x, 0, none⟩ = some (.slice (some ⟨g, 0, none⟩) n A.c) ∧ w1.drew.cell? ⟨x + 1, 5, none⟩ = some (.bool cm) ∧ w1.drew.cell? ⟨g, k * 4 + 3, none⟩ = some (.int .i64 0) := ⟨cc, cm1, p3⟩
  refine tillK_begin (S := fun w' => w'.cell? ⟨x, 0, none⟩ = some (.slice (some ⟨g, 0, none⟩) n A.c) ∧ w'.cell? ⟨x + 1, 5, none⟩ = some (.bool cm) ∧ w'.cell? ⟨g, k * 4 + 3, none⟩ = some (.int .i64 0)) (k := 8) (by kernel_rfl) ?_
  refine tillK_take (i := 0) (v := .pointer (some ⟨x, 0, none⟩)) rfl (by kernel_rfl) (by kernel_rfl) (by kernel_rfl) (by kernel_rfl) (by kernel_rfl) (by kernel_rfl) (fun _ _ _ h => h) (Or.inl ⟨by rfl, ?hyo_0⟩) (by assumption) ?resto_0
  case hyo_0 =>
    rintro w' ⟨e0, e1, e2⟩
    go_simp
  try simp only [List.getElem_toArray, List.getElem_cons_zero, Act.put, List.setIfInBounds_toArray, List.set_cons_zero, List.set_cons_succ]
  refine tillK_take (i := 1) (v := .slice (some ⟨g, 0, none⟩) n A.c) rfl (by kernel_rfl) (by kernel_rfl) (by kernel_rfl) (by kernel_rfl) (by kernel_rfl) (by kernel_rfl) (fun _ _ _ h => h) (Or.inl ⟨by rfl, ?hyo_1⟩) (by assumption) ?resto_1
  case hyo_1 =>
    rintro w' ⟨e0, e1, e2⟩
    go_simp
  try simp only [List.getElem_toArray, List.getElem_cons_succ, List.getElem_cons_zero, Act.put, List.setIfInBounds_toArray, List.set_cons_zero, List.set_cons_succ]
  refine tillK_take (i := 2) (v := .int .i64 k) rfl (by kernel_rfl) (by kernel_rfl) (by kernel_rfl) (by kernel_rfl) (by kernel_rfl) (by kernel_rfl) (fun _ _ _ h => h) (Or.inl ⟨by rfl, ?hyo_2⟩) (by assumption) ?resto_2
  case hyo_2 =>
    rintro w' ⟨e0, e1, e2⟩
    go_simp
  try simp only [List.getElem_toArray, List.getElem_cons_succ, List.getElem_cons_zero, Act.put, List.setIfInBounds_toArray, List.set_cons_zero, List.set_cons_succ]
  refine tillK_take (i := 3) (v := .pointer (some ⟨x + 1, 5, none⟩)) rfl (by kernel_rfl) (by kernel_rfl) (by kernel_rfl) (by kernel_rfl) (by kernel_rfl) (by kernel_rfl) (fun _ _ _ h => h) (Or.inl ⟨by rfl, ?hyo_3⟩) (by assumption) ?resto_3
  case hyo_3 =>
    rintro w' ⟨e0, e1, e2⟩
    go_simp
  try simp only [List.getElem_toArray, List.getElem_cons_succ, List.getElem_cons_zero, Act.put, List.setIfInBounds_toArray, List.set_cons_zero, List.set_cons_succ]
  refine tillK_take (i := 4) (v := .bool cm) rfl (by kernel_rfl) (by kernel_rfl) (by kernel_rfl) (by kernel_rfl) (by kernel_rfl) (by kernel_rfl) (fun _ _ _ h => h) (Or.inl ⟨by rfl, ?hyo_4⟩) (by assumption) ?resto_4
  case hyo_4 =>
    rintro w' ⟨e0, e1, e2⟩
    go_simp
  try simp only [List.getElem_toArray, List.getElem_cons_succ, List.getElem_cons_zero, Act.put, List.setIfInBounds_toArray, List.set_cons_zero, List.set_cons_succ]
  refine tillK_step (i := 5) (by kernel_rfl) rfl (by rfl) ?_
  intro Ko_5 hKo_5
  have HKo_5 := Lib.hid hKo_5
  clear hKo_5
  go_wp2_with fail
  refine (HOC.out _).mono ?_
  rintro e w2 ⟨rfl, rfl⟩
  dsimp only
  refine HKo_5.out.out _ _ (fun _ => S1) ?_
  refine tillK_step (i := 6) (by kernel_rfl) rfl (by rfl) ?_
  intro Ko_6 hKo_6
  have HKo_6 := Lib.hid hKo_6
  clear hKo_6
  go_wp2_with fail
  refine HKo_6.out.out _ _ (fun _ => S1) ?_
  refine tillK_step (i := 7) (by kernel_rfl) rfl (by rfl) ?_
  intro Ko_7 hKo_7
  have HKo_7 := Lib.hid hKo_7
  clear hKo_7
  go_wp2_with fail
  refine HKo_7.out.out _ _ (fun _ => S1) ?_
  refine tillK_step (i := 8) (by kernel_rfl) rfl (by rfl) ?_
  intro Ko_8 hKo_8
  have HKo_8 := Lib.hid hKo_8
  clear hKo_8
  go_wp2_with fail
  refine HKo_8.out.out _ _ (fun h => by simp at h) ?_
  refine tillK_done (by kernel_rfl) ?_
  rw [HV.out]
  clear S1 cc cm1 p3 zf
  go_upto_region 8 with (fail)
  have S1 : V.drew.cell? ⟨x, 0, none⟩ = some (.slice (some ⟨g, 0, none⟩) n A.c) ∧ V.drew.cell? ⟨g, k * 4 + 3, none⟩ = some (.int .i64 st) := ⟨by have := HKV.out.cc; rw [HEA.out] at this; exact this, HPV.out⟩
  have HFIN := Lib.hid (show DcP B w (L.set k ⟨⟨ya, yi⟩, yp, st⟩, 0, cm) (.returned (.tuple #[.agg #[.slice A.a n A.c], anV 0 cm])) (finW V (x + 1 + 1) (x + 1 + 1 + 1) (L.set k ⟨⟨ya, yi⟩, yp, st⟩) ⟨A.a, A.c, A.om.set k ⟨⟨⟨ya, yi⟩, yp, st⟩, yl, yc⟩⟩ 0 cm).drew from by
      apply DcP.drew
      have hx := HX.out
      have hlp : ∀ y ∈ A.om.set k ⟨⟨⟨ya, yi⟩, yp, st⟩, yl, yc⟩, LI y.a B w.heap.size := fun y hy => by
        rcases List.mem_or_eq_of_mem_set hy with e | e
        · exact HLP.out y e
        · have h0 := HLP.out _ (List.mem_of_getElem? HY.out)
          rw [e]; exact h0
      obtain ⟨m1, m2, m3⟩ := HKV.out.r.fin HMV.out 0 cm (fun y hy => ⟨(hlp y hy).ne (.inr (by omega)), (hlp y hy).ne (.inr (by omega))⟩)
      have hb : Below B w (finW V (x + 1 + 1) (x + 1 + 1 + 1) (L.set k ⟨⟨ya, yi⟩, yp, st⟩) ⟨A.a, A.c, A.om.set k ⟨⟨⟨ya, yi⟩, yp, st⟩, yl, yc⟩⟩ 0 cm) := HBV.out.trans (m2 _ (Below.refl _ _) (by have := HBB.out; omega))
      exact ⟨_, by simp [HN.out], m1, fun y hy => (hlp y hy).mono (Nat.le_refl _) hb.size, hb⟩)
  simp only [finW, set5a, List.length_set, HN.out, HEA.out] at HFIN
  obtain ⟨u0, e0⟩ := HKV.out.r.s.so 0 (by decide)
  obtain ⟨v0, f0⟩ := HKV.out.r.a.so 0 (by decide)
  obtain ⟨v1, f1⟩ := HKV.out.r.a.so 1 (by decide)
  obtain ⟨v2, f2⟩ := HKV.out.r.a.so 2 (by decide)
  obtain ⟨v3, f3⟩ := HKV.out.r.a.so 3 (by decide)
  obtain ⟨v4, f4⟩ := HKV.out.r.a.so 4 (by decide)
  have z4 := HKV.out.r.s.fz
  have z5 := HKV.out.r.a.fz
  have HS9 := Lib.hid (fun v => (show (V.setCell ⟨x + 1 + 1, 0, none⟩ v).drew.cell? ⟨x, 0, none⟩ = some (.slice (some ⟨g, 0, none⟩) n A.c) ∧ (V.setCell ⟨x + 1 + 1, 0, none⟩ v).drew.cell? ⟨g, k * 4 + 3, none⟩ = some (.int .i64 st) from ⟨(World.cell?_setCell_far _ _ _ _ (by simp only; omega)).trans S1.1, (World.cell?_setCell_far _ _ _ _ (by simp only; have := HGX.out; omega)).trans S1.2⟩))
  refine tillK_begin (S := fun w' => w'.cell? ⟨x, 0, none⟩ = some (.slice (some ⟨g, 0, none⟩) n A.c) ∧ w'.cell? ⟨g, k * 4 + 3, none⟩ = some (.int .i64 st)) (k := 10) (by kernel_rfl) ?_
  refine tillK_take (i := 0) (v := .agg #[.slice (some ⟨g, 0, none⟩) n A.c]) rfl (by kernel_rfl) (by kernel_rfl) (by kernel_rfl) (by kernel_rfl) (by kernel_rfl) (by kernel_rfl) (fun _ _ _ h => h) (Or.inl ⟨by rfl, ?hyp_0⟩) (by assumption) ?restp_0
  case hyp_0 =>
    rintro w' ⟨e0, e1⟩
    go_simp
  try simp only [List.getElem_toArray, List.getElem_cons_zero, Act.put, List.setIfInBounds_toArray, List.set_cons_zero, List.set_cons_succ]
  refine tillK_take (i := 1) (v := .pointer (some ⟨x, 0, none⟩)) rfl (by kernel_rfl) (by kernel_rfl) (by kernel_rfl) (by kernel_rfl) (by kernel_rfl) (by kernel_rfl) (fun _ _ _ h => h) (Or.inl ⟨by rfl, ?hyp_1⟩) (by assumption) ?restp_1
  case hyp_1 =>
    rintro w' ⟨e0, e1⟩
    go_simp
  try simp only [List.getElem_toArray, List.getElem_cons_succ, List.getElem_cons_zero, Act.put, List.setIfInBounds_toArray, List.set_cons_zero, List.set_cons_succ]
  refine tillK_take (i := 2) (v := .slice (some ⟨g, 0, none⟩) n A.c) rfl (by kernel_rfl) (by kernel_rfl) (by kernel_rfl) (by kernel_rfl) (by kernel_rfl) (by kernel_rfl) (fun _ _ _ h => h) (Or.inl ⟨by rfl, ?hyp_2⟩) (by assumption) ?restp_2
  case hyp_2 =>
    rintro w' ⟨e0, e1⟩
    go_simp
  try simp only [List.getElem_toArray, List.getElem_cons_succ, List.getElem_cons_zero, Act.put, List.setIfInBounds_toArray, List.set_cons_zero, List.set_cons_succ]
  refine tillK_take (i := 3) (v := .int .i64 k) rfl (by kernel_rfl) (by kernel_rfl) (by kernel_rfl) (by kernel_rfl) (by kernel_rfl) (by kernel_rfl) (fun _ _ _ h => h) (Or.inl ⟨by rfl, ?hyp_3⟩) (by assumption) ?restp_3
  case hyp_3 =>
    rintro w' ⟨e0, e1⟩
    go_simp
  try simp only [List.getElem_toArray, List.getElem_cons_succ, List.getElem_cons_zero, Act.put, List.setIfInBounds_toArray, List.set_cons_zero, List.set_cons_succ]
  refine tillK_take (i := 4) (v := .pointer (some ⟨g, k * 4, none⟩)) rfl (by kernel_rfl) (by kernel_rfl) (by kernel_rfl) (by kernel_rfl) (by kernel_rfl) (by kernel_rfl) (fun _ _ _ h => h) (Or.inl ⟨by rfl, ?hyp_4⟩) (by assumption) ?restp_4
  case hyp_4 =>
    rintro w' ⟨e0, e1⟩
    go_simp
  try simp only [List.getElem_toArray, List.getElem_cons_succ, List.getElem_cons_zero, Act.put, List.setIfInBounds_toArray, List.set_cons_zero, List.set_cons_succ]
  refine tillK_take (i := 5) (v := .pointer (some ⟨g, k * 4 + 3, none⟩)) rfl (by kernel_rfl) (by kernel_rfl) (by kernel_rfl) (by kernel_rfl) (by kernel_rfl) (by kernel_rfl) (fun _ _ _ h => h) (Or.inl ⟨by rfl, ?hyp_5⟩) (by assumption) ?restp_5
  case hyp_5 =>
    rintro w' ⟨e0, e1⟩
    go_simp
  try simp only [List.getElem_toArray, List.getElem_cons_succ, List.getElem_cons_zero, Act.put, List.setIfInBounds_toArray, List.set_cons_zero, List.set_cons_succ]
  refine tillK_take (i := 6) (v := .int .i64 st) rfl (by kernel_rfl) (by kernel_rfl) (by kernel_rfl) (by kernel_rfl) (by kernel_rfl) (by kernel_rfl) (fun _ _ _ h => h) (Or.inl ⟨by rfl, ?hyp_6⟩) (by assumption) ?restp_6
  case hyp_6 =>
    rintro w' ⟨e0, e1⟩
    go_simp
  try simp only [List.getElem_toArray, List.getElem_cons_succ, List.getElem_cons_zero, Act.put, List.setIfInBounds_toArray, List.set_cons_zero, List.set_cons_succ]
  refine tillK_take (i := 7) (v := .bool cm) rfl (by kernel_rfl) (by kernel_rfl) (by kernel_rfl) (by kernel_rfl) (by kernel_rfl) (by kernel_rfl) (fun _ _ _ h => h) (Or.inl ⟨by rfl, ?hyp_7⟩) (by assumption) ?restp_7
  case hyp_7 =>
    rintro w' ⟨e0, e1⟩
    go_simp
  try simp only [List.getElem_toArray, List.getElem_cons_succ, List.getElem_cons_zero, Act.put, List.setIfInBounds_toArray, List.set_cons_zero, List.set_cons_succ]
  refine tillK_take (i := 8) (v := .agg #[.int .i64 0, .string ⟨#[]⟩, .int .u64 0, .bool false, .bool cm]) rfl (by kernel_rfl) (by kernel_rfl) (by kernel_rfl) (by kernel_rfl) (by kernel_rfl) (by kernel_rfl) (fun _ _ _ h => h) (Or.inl ⟨by rfl, ?hyp_8⟩) (by assumption) ?restp_8
  case hyp_8 =>
    rintro w' ⟨e0, e1⟩
    go_simp
  try simp only [List.getElem_toArray, List.getElem_cons_succ, List.getElem_cons_zero, Act.put, List.setIfInBounds_toArray, List.set_cons_zero, List.set_cons_succ]
  refine tillK_step (i := 9) (by kernel_rfl) rfl (by rfl) ?_
  intro Kp_9 hKp_9
  have HKp_9 := Lib.hid hKp_9
  clear hKp_9
  go_wp2_with fail
  refine HKp_9.out.out _ _ (fun _ => HS9.out _) ?_
  refine tillK_step (i := 10) (by kernel_rfl) rfl (by rfl) ?_
  intro Kp_10 hKp_10
  have HKp_10 := Lib.hid hKp_10
  clear hKp_10
  go_wp2_with fail
  refine HKp_10.out.out _ _ (fun h => by simp at h) ?_
  refine tillK_done (by kernel_rfl) ?_
  go_wp2_with fail
  refine bodyPost_ret (v := .tuple #[.agg #[.slice (some ⟨g, 0, none⟩) n A.c], anV 0 cm]) (by simp [results, Try.results29, go_sem, e0, f0, f1, f2, f3, f4]) rfl ?_
  exact HFIN.out
end Go.Proofs.Ytohhkacnjhgamaa
