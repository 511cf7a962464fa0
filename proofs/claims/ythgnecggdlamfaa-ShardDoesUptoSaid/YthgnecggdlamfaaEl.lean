/- The document's finishes: one that is known, to be dropped. -/
import Derived.Test.YthgnecggdlamfaaEr
import Derived.Test.YthgnecggdlamfaaTu
namespace Go.Proofs.Ythgnecggdlamfaa
open Go.RowKit

set_option maxRecDepth 100000 in
set_option maxHeartbeats 8000000 in
theorem finDrop_any (B : Nat) (s : Sh) (A : Sad) (o : Odr) (a : Option Addr) (c : Nat) (q : Option Addr) (qn qc : Nat) (w : World) (hM : ShM w s A) (hB : B ≤ w.heap.size) (zs : SzS s) (zo : SzO o) (hov : oixS o.t 0 s.done = none ∧ ovrS o.t s.done = none) (hkn : ∃ (j : Nat) (y : SopM), A.om[j]? = some y ∧ kixS o.t 0 s.opn = some j ∧ knoS o.t s.opn = some y.x) (hcm : o.cm = false) :
    Calls Try.prog 24 #[shV s A, odrV o a c (.slice q qn qc)] w (OrB B w (finS s o)) := by
  obtain ⟨u, hu⟩ : ∃ u, Value.slice q qn qc = u := ⟨_, rfl⟩
  rw [hu]
  clear hu
  obtain ⟨W, hW⟩ : ∃ W, doW w s A o a c u = W := ⟨_, rfl⟩
  obtain ⟨x, hx⟩ : ∃ x, w.heap.size = x := ⟨_, rfl⟩
  obtain ⟨hS, hO, hR, hBW, hsz⟩ := four hW hx
  have hol : s.opn.length ≤ 140737488351232 := by have := zs.olen; omega
  have hdl : s.done.length ≤ 140737488351232 := by have := zs.dlen; omega
  have HP := Lib.hid (show PB x s A o a c u W from ⟨hS, hO, hM.later hBW⟩)
  have HR := Lib.hid (show RsC B w W (x + 1 + 1) (x + 1 + 1 + 1) from ⟨hR.s, hR.a, Nat.le_trans hB hR.l4, hR.l5, hR.b.mono hB⟩)
  have HBX := Lib.hid (show B ≤ x from hx ▸ hB)
  have HDA := Lib.hid (fun w' (h : Below W.heap.size W w') => rOver_any s A o.t hdl w' ((hM.later hBW).later h))
  have HOA := Lib.hid (fun w' (h : Below W.heap.size W w') => rKnown_any s A o.t hol w' ((hM.later hBW).later h))
  have HZ := Lib.hid zs
  have HZO := Lib.hid zo
  have HW := Lib.hid hW
  have HX := Lib.hid hx
  have HSZ := Lib.hid hsz
  obtain ⟨kd, ⟨ta, ti⟩, key, P, cm⟩ := o
  obtain ⟨r, hr⟩ : ∃ r, finS s ⟨kd, ⟨ta, ti⟩, key, P, cm⟩ = r := ⟨_, rfl⟩
  rw [hr]
  have HRR := Lib.hid hr
  obtain ⟨_, q0, q1, q2, q3, q4, q5, q6⟩ := hO
  obtain ⟨_, c0, c1, c2, c3, c4⟩ := hS
  simp only at q0 q1 q2 q3 q4 q5 HDA HOA
  simp only at hov hkn
  have HOVH := Lib.hid hov
  have HKNH := Lib.hid hkn
  clear hov hkn
  simp only at hcm
  subst hcm
  clear hM hB zs zo hR hBW hsz hW hx hr
  go_enter Try.func24, Try.ntmps24
  go_wp2_with fail
  have hWX := HW.out
  simp only [doW] at hWX
  rw [hWX, HX.out]
  clear hWX
  go_wp2_with fail
  refine (HDA.out W (Below.refl _ _)).mono ?_
  rintro e w1 ⟨rfl, hb1⟩
  have HB1 := Lib.hid hb1
  have HP1 := Lib.hid (HP.out.later hb1)
  have HR1 := Lib.hid (HR.out.later HR.out.size hb1)
  clear hb1 c0 c1 c2 c3 c4 q0 q1 q2 q3 q4 q5 q6
  obtain ⟨_, c0, c1, c2, c3, c4⟩ := HP1.out.bs
  obtain ⟨_, q0, q1, q2, q3, q4, q5, q6⟩ := HP1.out.ob
  simp only at q0 q1 q2 q3 q4 q5
  go_wp2_with fail
  refine (HOA.out w1 HB1.out).mono ?_
  rintro e w2 ⟨rfl, hb2⟩
  have HB2 := Lib.hid (HB1.out.trans (hb2.mono HB1.out.size))
  have HP2 := Lib.hid (HP1.out.later hb2)
  have HR2 := Lib.hid (HR1.out.later HR1.out.size hb2)
  clear hb2 c0 c1 c2 c3 c4 q0 q1 q2 q3 q4 q5 q6
  have hov := HOVH.out
  rw [hov.1]
  have gI : ixI none = -1 := rfl
  rw [gI]
  have HOV := Lib.hid hov.2
  clear gI hov
  obtain ⟨j, y, hy, h3, h5⟩ := HKNH.out
  rw [h3]
  have gI : ixI (some j) = (j : Int) := rfl
  rw [gI]
  have hym := List.mem_of_getElem? hy
  have hys := HZ.out.opn y.x (by rw [← HP2.out.m.om]; exact List.mem_map.2 ⟨y, hym, rfl⟩)
  have hjl := (List.getElem?_eq_some_iff.1 hy).1
  rw [HP2.out.m.olen] at hjl
  obtain ⟨b, off, hoa, _, p0, p1, p2, p3, p4⟩ := Sop.cells HP2.out.m.opn hy
  have i0 : (0 : Int) ≤ (j : Int) := by omega
  have i1 : (j : Int) < (s.opn.length : Int) := by omega
  have i2 : ¬ (j : Int) < 0 := by omega
  obtain ⟨⟨⟨ya, yi⟩, yf, yw, yp⟩, pa, pc⟩ := y
  simp only at p0 p1 p2 p3 p4 hys h5
  clear gI h3 hjl
  obtain ⟨_, c0, c1, c2, c3, c4⟩ := HP2.out.bs
  obtain ⟨_, q0, q1, q2, q3, q4, q5, q6⟩ := HP2.out.ob
  simp only at q0 q1 q2 q3 q4 q5
  rw [hoa] at c2
  have HEt := Lib.hid (show r = (relS s.rows s.ver s ⟨kd, ⟨ta, ti⟩, key, P, false⟩, ansC 0 false) from by rw [← HRR.out]; unfold finS; simp only [HOV.out, h5, Bool.false_eq_true, false_and, if_false])
  clear h5 hys hym hy hoa p0 p1 p2 p3 p4
  have HPt := Lib.hid (show PB x ⟨s.rows, s.holds, s.opn, s.done, s.ver⟩ ⟨A.ra, A.rc, A.ha, A.hc, A.oa, A.oc, A.om, A.da, A.dc⟩ ⟨kd, ⟨ta, ti⟩, key, P, false⟩ a c u w2 from HP2.out)
  have HRt := HR2
  have HZt := Lib.hid (show x + 1 + 1 + 1 + 1 ≤ w2.heap.size from by have := HB2.out.size; have := HSZ.out; omega)
  clear c0 c1 c2 c3 c4 q0 q1 q2 q3 q4 q5 q6
  obtain ⟨_, c0, c1, c2, c3, c4⟩ := HPt.out.bs
  obtain ⟨_, q0, q1, q2, q3, q4, q5, q6⟩ := HPt.out.ob
  simp only at q0 q1 q2 q3 q4 q5
  go_wp2_with fail
  clear c0 c1 c2 c3 c4 q0 q1 q2 q3 q4 q5 q6
  refine (rDrop_any s.holds.length A.hc A.ha s.holds ⟨ta, ti⟩ rfl HZ.out.hlen w2 HPt.out.m.holds).mono ?_
  rintro e w8 ⟨ah, dh, rfl, hH8, hd8, hm8, hb8⟩
  obtain ⟨L2, hL2⟩ : ∃ L, dropH ⟨ta, ti⟩ s.holds = L := ⟨_, rfl⟩
  rw [hL2] at hH8 hd8 ⊢
  have hP8 := HPt.out.later hb8
  have hR8 := HRt.out.later HRt.out.size hb8
  have hz8 : x + 1 + 1 + 1 + 1 ≤ w8.heap.size := by have := HZt.out; have := hb8.size; omega
  have hx8 := HBX.out
  obtain ⟨k8, e0, e1, e2, e3, e4⟩ := hP8.bs
  obtain ⟨w9, hw9⟩ : ∃ V, w8.setCell ⟨x, 1, none⟩ (.slice ah L2.length dh) = V := ⟨_, rfl⟩
  have hg9 : w8.grownBy w9 (some x) := hw9 ▸ sc_one _ _ _ _
  have hm9 : ShM w8 ⟨s.rows, L2, s.opn, s.done, s.ver⟩ ⟨A.ra, A.rc, ah, dh, A.oa, A.oc, A.om, A.da, A.dc⟩ := by
    have hm := hP8.m
    exact ⟨hm.rows, hH8, hm.om, hm.opn, hm.puts, hm.done, ⟨hm.cp.r, ⟨hd8, hm8⟩, hm.cp.o, hm.cp.d, hm.cp.p⟩⟩
  have hbs9 : BS w9 x ⟨s.rows, L2, s.opn, s.done, s.ver⟩ ⟨A.ra, A.rc, ah, dh, A.oa, A.oc, A.om, A.da, A.dc⟩ := by
    rw [← hw9]
    exact ⟨k8.set (i := 1) (v := .slice ah L2.length dh) rfl, by simp [go_sem, e0], by simp [go_sem, e1], by simp [go_sem, e2], by simp [go_sem, e3], by simp [go_sem, e4]⟩
  have HP9 := Lib.hid (show PB x ⟨s.rows, L2, s.opn, s.done, s.ver⟩ ⟨A.ra, A.rc, ah, dh, A.oa, A.oc, A.om, A.da, A.dc⟩ ⟨kd, ⟨ta, ti⟩, key, P, false⟩ a c u w9 from ⟨hbs9, hP8.ob.grown hg9 (by omega), hw9 ▸ hm9.set k8 fits_s 1 _⟩)
  have HR9 := Lib.hid (hR8.grown hg9 hx8 (by omega) (by omega))
  have HZ9 := Lib.hid (show x + 1 + 1 + 1 + 1 ≤ w9.heap.size from by have := hg9.size; omega)
  have HW9 := Lib.hid hw9
  have HL2 := Lib.hid hL2
  have f8 := k8.fz
  clear hL2 hH8 hd8 hm8 hb8 hP8 hR8 hz8 hx8 k8 e0 e2 e3 e4 hw9 hg9 hm9 hbs9
  go_wp2_with fail
  rw [HW9.out]
  clear e1 f8
  obtain ⟨_, c0, c1, c2, c3, c4⟩ := HP9.out.bs
  obtain ⟨_, q0, q1, q2, q3, q4, q5, q6⟩ := HP9.out.ob
  simp only at q0 q1 q2 q3 q4 q5
  go_wp2_with fail
  clear c0 c1 c2 c3 c4 q0 q1 q2 q3 q4 q5 q6
  go_loopw [11, 12] (fun lv iv wr => ∃ (k : Nat) (a' : Option Addr) (c' : Nat), k ≤ s.opn.length ∧ lv = .slice a' (mfO ⟨ta, ti⟩ (A.om.take k)).length c' ∧ iv = .int .i64 k ∧ Cq 48 5 sopC w9.heap.size wr (.slice a' (mfO ⟨ta, ti⟩ (A.om.take k)).length c') (mfO ⟨ta, ti⟩ (A.om.take k)) ∧ Below w9.heap.size w9 wr) (fun _ iv _ => s.opn.length - (intOf iv).toNat)
  case atStart => exact ⟨0, none, 0, Nat.zero_le _, by simp [mfO], rfl, by simp only [List.take_zero, mfO, List.filter_nil, List.length_nil]; exact Cq.nil _ _ _, Below.refl _ _⟩
  case round =>
    obtain ⟨k, a', c', hk, rfl, rfl, hQ, hBw⟩ := hrel
    have HQ := Lib.hid hQ
    have HBW := Lib.hid hBw
    have HPk := Lib.hid (HP9.out.later hBw)
    have HRk := Lib.hid (HR9.out.later HR9.out.size hBw)
    clear hQ hBw
    obtain ⟨_, c0, c1, c2, c3, c4⟩ := HPk.out.bs
    obtain ⟨_, q0, q1, q2, q3, q4, q5, q6⟩ := HPk.out.ob
    simp only at q0 q1 q2 q3 q4 q5
    by_cases hlt : k < s.opn.length
    · obtain ⟨y, hy⟩ : ∃ y, A.om[k]? = some y := ⟨_, List.getElem?_eq_getElem (by have := HPk.out.m.olen; simp only at this; omega)⟩
      have HAT := Lib.hid (mfO_at (t := ⟨ta, ti⟩) hy)
      have hln := mfO_len ⟨ta, ti⟩ (A.om.take k)
      rw [List.length_take] at hln
      obtain ⟨b, off, hoa, hb, p0, p1, p2, p3, p4⟩ := Sop.cells HPk.out.m.opn hy
      simp only at hoa
      rw [hoa] at c2
      have i0 : (0 : Int) ≤ (k : Int) := by omega
      have i1 : (k : Int) < (s.opn.length : Int) := by omega
      have hcell : ∀ X, Below wr.heap.size wr X → Hid (X.cell? ⟨b, off + k * 5, none⟩ = some (.int .u64 (y.x.t.age : Nat)) ∧ X.cell? ⟨b, off + k * 5 + 1, none⟩ = some (.int .u64 (y.x.t.id : Nat)) ∧ X.cell? ⟨b, off + k * 5 + 2, none⟩ = some (.bool y.x.fm) ∧ X.cell? ⟨b, off + k * 5 + 3, none⟩ = some (.bool y.x.wd) ∧ X.cell? ⟨b, off + k * 5 + 4, none⟩ = some (.slice y.a y.x.puts.length y.c) ∧ X.cell? ⟨x, 2, none⟩ = some (.slice (some ⟨b, off, none⟩) s.opn.length A.oc)) := fun X h => Lib.hid (by
        have hkb := HPk.out.bs.kb.lt
        exact ⟨(h.cell (p := ⟨b, off + k * 5, none⟩) hb).trans p0, (h.cell (p := ⟨b, off + k * 5 + 1, none⟩) hb).trans p1, (h.cell (p := ⟨b, off + k * 5 + 2, none⟩) hb).trans p2, (h.cell (p := ⟨b, off + k * 5 + 3, none⟩) hb).trans p3, (h.cell (p := ⟨b, off + k * 5 + 4, none⟩) hb).trans p4, (h.cell (p := ⟨x, 2, none⟩) hkb).trans c2⟩)
      clear hy hb hoa
      obtain ⟨⟨⟨ya, yi⟩, yf, yw, yp⟩, pa, pc⟩ := y
      simp only at p0 p1 p2 p3 p4 HAT hcell
      by_cases he : (⟨ya, yi⟩ : Tx) = ⟨ta, ti⟩
      · have HE := Lib.hid (show mfO ⟨ta, ti⟩ (A.om.take (k + 1)) = mfO ⟨ta, ti⟩ (A.om.take k) from by rw [HAT.out, if_pos he, List.append_nil])
        cases he
        clear hcell hln
        go_wp2_with fail
        go_quiet (fail)
        go_wp2_with fail
        go_roundw
        case rel => exact ⟨k + 1, a', c', by omega, by rw [HE.out], by go_num, by rw [HE.out]; exact HQ.out.later (below_drewN (Below.refl _ _) _), below_drewN HBW.out _⟩
        case measure => simp [intOf]; omega
      · have HE := Lib.hid (show mfO ⟨ta, ti⟩ (A.om.take (k + 1)) = mfO ⟨ta, ti⟩ (A.om.take k) ++ [⟨⟨⟨ya, yi⟩, yf, yw, yp⟩, pa, pc⟩] from by rw [HAT.out, if_neg he])
        have hcase : (¬ ya = ta) ∨ (¬ yi = ti) := by
          by_cases h1 : ya = ta
          · right; intro h2; exact he (by rw [h1, h2])
          · exact .inl h1
        have HCELL := Lib.hid hcell
        clear he hcell
        rcases hcase with h1 | h1
        all_goals
          first
          | (have g1 : ((ya : Int) == (ta : Int)) = false := by simp; omega)
          | (have g1 : ((yi : Int) == (ti : Int)) = false := by simp; omega)
          go_wp2_with fail
          go_quiet (fail)
          obtain ⟨X, hX⟩ : ∃ X, X = wr.drewN nq := ⟨_, rfl⟩
          rw [← hX]
          have hbX : Below wr.heap.size wr X := hX ▸ below_drewN (Below.refl _ _) _
          obtain ⟨o0, o1, o2, o3, o4, o5⟩ := (HCELL.out X hbX).out
          have B1 : Below X.heap.size X (X.alloc (.cells #[.int .u64 (ya : Nat), .int .u64 (yi : Nat), .bool yf, .bool yw, .slice pa yp.length pc] 48)) := (Below.refl _ _).alloc (Nat.le_refl _) _
          obtain ⟨v6, w6, hr6, hc6, hb6⟩ := app_rw sopT w9.heap.size _ 24 _ _ ((HQ.out.later hbX).later B1) (some ⟨X.heap.size, 0, none⟩) 1 1 [(⟨⟨⟨ya, yi⟩, yf, yw, yp⟩, pa, pc⟩ : SopM)] rfl (rw_one (f := sopC) X rfl (⟨⟨⟨ya, yi⟩, yf, yw, yp⟩, pa, pc⟩ : SopM) rfl 48) (by have := HZ.out.olen; omega) (by have := HBW.out.size; have := hbX.size; have := B1.size; omega)
          obtain ⟨a6, c6, e6, _⟩ := hc6.form sopT
          subst e6
          have HR6 := Lib.hid hr6
          have HQ6 := Lib.hid (show Cq 48 5 sopC w9.heap.size w6 (.slice a6 (mfO ⟨ta, ti⟩ (A.om.take (k + 1))).length c6) (mfO ⟨ta, ti⟩ (A.om.take (k + 1))) from by rw [HE.out]; exact hc6)
          have HB6 := Lib.hid (HBW.out.trans (((hbX.trans (B1.mono hbX.size)).mono HBW.out.size).trans hb6))
          clear hr6 hc6 hb6 hln hX hbX B1 p0 p1 p2 p3 p4 c0 c1 c2 c3 c4 q0 q1 q2 q3 q4 q5 q6 g1 h1
          go_wp2_with (at_builtin; refine Lib.wpList_append_run _ rfl _ _ 24 24 rfl _ (.slice (some ⟨X.heap.size, 0, none⟩) 1 1) rfl rfl _ _ HR6.out ?_)
          go_roundw
          case rel => exact ⟨k + 1, a6, c6, by omega, by rw [HE.out]; first | rfl | simp, by go_num, HQ6.out, HB6.out⟩
          case measure => simp [intOf]; omega
    · have i1 : ¬ (k : Int) < (s.opn.length : Int) := by omega
      have ek : A.om.take k = A.om := List.take_of_length_le (by have := HPk.out.m.olen; simp only at this; omega)
      have HQ2 := HQ.out
      obtain ⟨M2, hM2⟩ : ∃ M, mfO ⟨ta, ti⟩ A.om = M := ⟨_, rfl⟩
      rw [ek, hM2] at HQ2 ⊢
      obtain ⟨_, _, e9, hRw, _, hcl, hcm⟩ := HQ2.form sopT
      injection e9 with e9 _ e10
      subst e9 e10
      have hMx : M2.map (fun y => y.x) = s.opn.filter (fun y => !decide (y.t = (⟨ta, ti⟩ : Tx))) := by rw [← hM2, mfO_x]; exact congrArg _ HPk.out.m.om
      have hML : M2.length = (s.opn.filter (fun y => !decide (y.t = (⟨ta, ti⟩ : Tx)))).length := by rw [← hMx, List.length_map]
      have hMm : ∀ y ∈ M2, y ∈ A.om := fun y hy => mfO_mem (hM2 ▸ hy)
      obtain ⟨w10, hw10⟩ : ∃ V, wr.setCell ⟨x, 2, none⟩ (.slice a' M2.length c') = V := ⟨_, rfl⟩
      have hg10 : wr.grownBy w10 (some x) := hw10 ▸ sc_one _ _ _ _
      have hxk := HBX.out
      have hzk : x + 1 + 1 + 1 + 1 ≤ wr.heap.size := by have := HZ9.out; have := HBW.out.size; omega
      obtain ⟨k8, e0, e1, e2, e3, e4⟩ := HPk.out.bs
      have hm10 : ShM wr ⟨s.rows, L2, s.opn.filter (fun y => !decide (y.t = (⟨ta, ti⟩ : Tx))), s.done, s.ver⟩ ⟨A.ra, A.rc, ah, dh, a', c', M2, A.da, A.dc⟩ := by
        have hm := HPk.out.m
        exact ⟨hm.rows, hm.holds, hMx, hRw, fun y hy => hm.puts y (hMm y hy), hm.done, ⟨hm.cp.r, hm.cp.h, ⟨by rw [← hML]; exact hcl, hcm⟩, hm.cp.d, fun y hy => hm.cp.p y (hMm y hy)⟩⟩
      have hbs10 : BS w10 x ⟨s.rows, L2, s.opn.filter (fun y => !decide (y.t = (⟨ta, ti⟩ : Tx))), s.done, s.ver⟩ ⟨A.ra, A.rc, ah, dh, a', c', M2, A.da, A.dc⟩ := by
        rw [← hw10]
        exact ⟨k8.set (i := 2) (v := .slice a' M2.length c') rfl, by simp [go_sem, e0], by simp [go_sem, e1], by rw [← hML]; simp [go_sem, e2], by simp [go_sem, e3], by simp [go_sem, e4]⟩
      have hP10 : PB x ⟨s.rows, L2, s.opn.filter (fun y => !decide (y.t = (⟨ta, ti⟩ : Tx))), s.done, s.ver⟩ ⟨A.ra, A.rc, ah, dh, a', c', M2, A.da, A.dc⟩ ⟨kd, ⟨ta, ti⟩, key, P, false⟩ a c u w10 := ⟨hbs10, HPk.out.ob.grown hg10 (by omega), hw10 ▸ hm10.set k8 fits_s 2 _⟩
      have HEE := Lib.hid (show r = (⟨s.rows, L2, s.opn.filter (fun y => !decide (y.t = (⟨ta, ti⟩ : Tx))), s.done ++ [(⟨⟨ta, ti⟩, false⟩ : Sdn)], s.ver⟩, ansC 0 false) from by rw [HEt.out]; unfold relS; simp only [HL2.out])
      obtain ⟨s3, hs3⟩ : ∃ z : Sh, (⟨s.rows, L2, s.opn.filter (fun y => !decide (y.t = (⟨ta, ti⟩ : Tx))), s.done, s.ver⟩ : Sh) = z := ⟨_, rfl⟩
      obtain ⟨A3, hA3⟩ : ∃ z : Sad, (⟨A.ra, A.rc, ah, dh, a', c', M2, A.da, A.dc⟩ : Sad) = z := ⟨_, rfl⟩
      have HES := Lib.hid (show r = (⟨s3.rows, s3.holds, s3.opn, s.done ++ [(⟨⟨ta, ti⟩, false⟩ : Sdn)], s3.ver⟩, ansC 0 false) from by rw [← hs3]; exact HEE.out)
      have HD3 := Lib.hid (show s3.done = s.done from by rw [← hs3])
      rw [hs3, hA3] at hP10
      have HP10 := Lib.hid hP10
      have HR10 := Lib.hid (HRk.out.grown hg10 hxk (by omega) (by omega))
      have HZ10 := Lib.hid (show x + 1 + 1 + 1 + 1 ≤ w10.heap.size from by have := hg10.size; omega)
      have HW10 := Lib.hid hw10
      have f8 := k8.fz
      clear ek HQ2 hM2 hRw hcl hcm hMx hML hMm hw10 hg10 hxk hzk k8 e0 e1 e3 e4 hm10 hbs10 hP10 hs3 hA3 HEE HQ q0 q1 q2 q3 q4 q5 q6 c0 c1 c3 c4
      go_upto_region 28 with (fail)
      rw [HW10.out]
      clear e2 f8 c2
      go_cut [11] (fun _ wx => ∃ (a9 : Option Addr) (d9 : Nat) (V : World), V = wx ∧ PB x ⟨s3.rows, s3.holds, s3.opn, s.done ++ [(⟨⟨ta, ti⟩, false⟩ : Sdn)], s3.ver⟩ ⟨A3.ra, A3.rc, A3.ha, A3.hc, A3.oa, A3.oc, A3.om, a9, d9⟩ ⟨kd, ⟨ta, ti⟩, key, P, false⟩ a c u V ∧ RsC B w V (x + 1 + 1) (x + 1 + 1 + 1))
      case first =>
        refine tillK_begin (S := PB x s3 A3 ⟨kd, ⟨ta, ti⟩, key, P, false⟩ a c u) (k := 12) (by kernel_rfl) ?_
        obtain ⟨wd, hwd⟩ : ∃ V, w10.drew = V := ⟨_, rfl⟩
        have hbd : Below w10.heap.size w10 wd := hwd ▸ (Below.refl _ _).drew
        have HPd := Lib.hid (HP10.out.later hbd)
        have HRd := Lib.hid (HR10.out.later HR10.out.size hbd)
        have HZd := Lib.hid (show x + 1 + 1 + 1 + 1 ≤ wd.heap.size from by have := hbd.size; have := HZ10.out; omega)
        have HBd := Lib.hid (Below.refl wd.heap.size wd)
        have Sd : PB x s3 A3 ⟨kd, ⟨ta, ti⟩, key, P, false⟩ a c u wd := HPd.out
        rw [hwd]
        clear hwd hbd
        refine tillK_take (i := 1) (v := .pointer (some ⟨x, 3, none⟩)) rfl (by kernel_rfl) (by kernel_rfl) (by kernel_rfl) (by kernel_rfl) (by kernel_rfl) (by kernel_rfl) (fun _ _ _ h => h) (Or.inl ⟨by rfl, ?hyc_1⟩) (by assumption) ?restc_1
        case hyc_1 =>
          rintro w' ⟨hb, ho, hm⟩
          obtain ⟨_, c0, c1, c2, c3, c4⟩ := hb
          obtain ⟨_, q0, q1, q2, q3, q4, q5, q6⟩ := ho
          rw [HD3.out] at c3
          simp only at q0 q1 q2 q3 q4 q5
          go_simp
        try simp only [Act.put, List.setIfInBounds_toArray]
        refine tillK_take (i := 2) (v := .slice A3.da s.done.length A3.dc) rfl (by kernel_rfl) (by kernel_rfl) (by kernel_rfl) (by kernel_rfl) (by kernel_rfl) (by kernel_rfl) (fun _ _ _ h => h) (Or.inl ⟨by rfl, ?hyc_2⟩) (by assumption) ?restc_2
        case hyc_2 =>
          rintro w' ⟨hb, ho, hm⟩
          obtain ⟨_, c0, c1, c2, c3, c4⟩ := hb
          obtain ⟨_, q0, q1, q2, q3, q4, q5, q6⟩ := ho
          rw [HD3.out] at c3
          simp only at q0 q1 q2 q3 q4 q5
          go_simp
        try simp only [Act.put]
        refine tillK_take (i := 4) (v := .pointer (some ⟨x + 1, 1, none⟩)) rfl (by kernel_rfl) (by kernel_rfl) (by kernel_rfl) (by kernel_rfl) (by kernel_rfl) (by kernel_rfl) (fun _ _ _ h => h) (Or.inl ⟨by rfl, ?hyc_4⟩) (by assumption) ?restc_4
        case hyc_4 =>
          rintro w' ⟨hb, ho, hm⟩
          obtain ⟨_, c0, c1, c2, c3, c4⟩ := hb
          obtain ⟨_, q0, q1, q2, q3, q4, q5, q6⟩ := ho
          rw [HD3.out] at c3
          simp only at q0 q1 q2 q3 q4 q5
          go_simp
        try simp only [Act.put]
        refine tillK_take (i := 5) (v := .agg #[.int .u64 (ta : Nat), .int .u64 (ti : Nat)]) rfl (by kernel_rfl) (by kernel_rfl) (by kernel_rfl) (by kernel_rfl) (by kernel_rfl) (by kernel_rfl) (fun _ _ _ h => h) (Or.inl ⟨by rfl, ?hyc_5⟩) (by assumption) ?restc_5
        case hyc_5 =>
          rintro w' ⟨hb, ho, hm⟩
          obtain ⟨_, c0, c1, c2, c3, c4⟩ := hb
          obtain ⟨_, q0, q1, q2, q3, q4, q5, q6⟩ := ho
          rw [HD3.out] at c3
          simp only at q0 q1 q2 q3 q4 q5
          go_simp
        try simp only [Act.put]
        refine tillK_take (i := 6) (v := .pointer (some ⟨x + 1, 5, none⟩)) rfl (by kernel_rfl) (by kernel_rfl) (by kernel_rfl) (by kernel_rfl) (by kernel_rfl) (by kernel_rfl) (fun _ _ _ h => h) (Or.inl ⟨by rfl, ?hyc_6⟩) (by assumption) ?restc_6
        case hyc_6 =>
          rintro w' ⟨hb, ho, hm⟩
          obtain ⟨_, c0, c1, c2, c3, c4⟩ := hb
          obtain ⟨_, q0, q1, q2, q3, q4, q5, q6⟩ := ho
          rw [HD3.out] at c3
          simp only at q0 q1 q2 q3 q4 q5
          go_simp
        try simp only [Act.put]
        refine tillK_take (i := 7) (v := .bool false) rfl (by kernel_rfl) (by kernel_rfl) (by kernel_rfl) (by kernel_rfl) (by kernel_rfl) (by kernel_rfl) (fun _ _ _ h => h) (Or.inl ⟨by rfl, ?hyc_7⟩) (by assumption) ?restc_7
        case hyc_7 =>
          rintro w' ⟨hb, ho, hm⟩
          obtain ⟨_, c0, c1, c2, c3, c4⟩ := hb
          obtain ⟨_, q0, q1, q2, q3, q4, q5, q6⟩ := ho
          rw [HD3.out] at c3
          simp only at q0 q1 q2 q3 q4 q5
          go_simp
        try simp only [Act.put]
        refine tillK_take (i := 8) (v := .agg #[.int .u64 (ta : Nat), .int .u64 (ti : Nat), .bool false]) rfl (by kernel_rfl) (by kernel_rfl) (by kernel_rfl) (by kernel_rfl) (by kernel_rfl) (by kernel_rfl) (fun _ _ _ h => h) (Or.inl ⟨by rfl, ?hyc_8⟩) (by assumption) ?restc_8
        case hyc_8 =>
          rintro w' ⟨hb, ho, hm⟩
          obtain ⟨_, c0, c1, c2, c3, c4⟩ := hb
          obtain ⟨_, q0, q1, q2, q3, q4, q5, q6⟩ := ho
          rw [HD3.out] at c3
          simp only at q0 q1 q2 q3 q4 q5
          go_simp
        try simp only [Act.put]
        refine tillK_step2 (i := 0) (j := 9) (by kernel_rfl) rfl rfl (by rfl) (by rfl) ?_ ?_
        · intro Kca hKca
          have HKca := Lib.hid hKca
          clear hKca
          go_wp2_with fail
          obtain ⟨vca, hvca⟩ : ∃ V, wd.alloc (.cells #[] 68) = V := ⟨_, rfl⟩
          obtain ⟨z0, hz0⟩ : ∃ x, wd.heap.size = x := ⟨_, rfl⟩
          have hbca : Below wd.heap.size wd vca := by rw [← hvca]; go_grown
          have hsca : vca.heap.size = z0 + 1 := by rw [← hvca, ← hz0]; simp
          have HZca := Lib.hid (show wd.heap.size ≤ z0 ∧ z0 < vca.heap.size ∧ wd.heap.size ≤ z0 from ⟨by have := HBd.out.size; omega, by omega, by omega⟩)
          have HBca := Lib.hid (HBd.out.trans (hbca.mono HBd.out.size))
          have Sca : PB x s3 A3 ⟨kd, ⟨ta, ti⟩, key, P, false⟩ a c u vca := HPd.out.later HBca.out
          rw [hvca, hz0]
          clear hvca hz0 hbca hsca
          try dsimp only
          refine HKca.out.out _ _ (fun _ => Sca) ?_
          refine tillK_step2 (i := 3) (j := 9) (by kernel_rfl) rfl rfl (by rfl) (by rfl) ?_ ?_
          · obtain ⟨vv, vcab, hrcab, hccab, _, rr, hgcab, hr2cab⟩ := app_rwG sdnT wd.heap.size vca 25 (.slice (some ⟨z0, 0, none⟩) 0 0) [] (Cq.nil _ _ _) A3.da s.done.length A3.dc s.done rfl (show Rw 3 sdnC vca A3.da s.done from HD3.out ▸ Sca.m.done) (by simp only [List.length_nil]; have := HZ.out.dlen; omega) HBca.out.size
            rw [List.nil_append] at hccab
            obtain ⟨a5, c5, e5, _⟩ := hccab.form sdnT
            subst e5
            have hg0cab : vca.grownBy vcab (some z0) := by
              cases rr with
              | none => exact grown_none hgcab _
              | some g =>
                obtain ⟨_, n', c', e⟩ := hr2cab g rfl
                injection e with e _ _
                injection e with e
                injection e with e
                subst e; exact hgcab
            have HAcab := Lib.hid hrcab
            have HQcab := Lib.hid hccab
            have HBcab := Lib.hid (HBca.out.grown hg0cab HBca.out.size (fun k e => by cases e; exact HZca.out.1))
            have Scab : PB x s3 A3 ⟨kd, ⟨ta, ti⟩, key, P, false⟩ a c u vcab := HPd.out.later HBcab.out
            clear hrcab hccab hgcab hg0cab hr2cab
            intro Kcab hKcab
            have HKcab := Lib.hid hKcab
            clear hKcab
            refine Lib.wp_append_run _ _ _ 25 25 rfl (.slice (some ⟨z0, 0, none⟩) 0 0) (.slice A3.da s.done.length A3.dc) rfl rfl _ _ HAcab.out ?_
            try simp only [Act.put, List.setIfInBounds_toArray]
            try dsimp only
            refine HKcab.out.out _ _ (fun _ => Scab) ?_
            refine tillK_step (i := 9) (by kernel_rfl) rfl (by rfl) ?_
            intro Kcabc hKcabc
            have HKcabc := Lib.hid hKcabc
            clear hKcabc
            go_wp2_with fail
            obtain ⟨vcabc, hvcabc⟩ : ∃ V, vcab.alloc (.cells #[.int .u64 (ta : Nat), .int .u64 (ti : Nat), .bool false] 68) = V := ⟨_, rfl⟩
            obtain ⟨z9, hz9⟩ : ∃ x, vcab.heap.size = x := ⟨_, rfl⟩
            have hbcabc : Below vcab.heap.size vcab vcabc := by rw [← hvcabc]; go_grown
            have hscabc : vcabc.heap.size = z9 + 1 := by rw [← hvcabc, ← hz9]; simp
            have HNcabc := Lib.hid (show Rw 3 sdnC vcabc (some ⟨z9, 0, none⟩) [(⟨⟨ta, ti⟩, false⟩ : Sdn)] from hvcabc ▸ rw_one (f := sdnC) vcab hz9.symm (⟨⟨ta, ti⟩, false⟩ : Sdn) rfl 68)
            have HQcabc := Lib.hid (HQcab.out.later hbcabc)
            have HZcabc := Lib.hid (show wd.heap.size ≤ z9 ∧ z9 < vcabc.heap.size ∧ vcab.heap.size ≤ z9 from ⟨by have := HBcab.out.size; omega, by omega, by omega⟩)
            have HBcabc := Lib.hid (HBcab.out.trans (hbcabc.mono HBcab.out.size))
            have Scabc : PB x s3 A3 ⟨kd, ⟨ta, ti⟩, key, P, false⟩ a c u vcabc := HPd.out.later HBcabc.out
            rw [hvcabc, hz9]
            clear hvcabc hz9 hbcabc hscabc
            try dsimp only
            refine HKcabc.out.out _ _ (fun _ => Scabc) ?_
            obtain ⟨vv2, vcabce, hrcabce, hccabce, hbcabce⟩ := app_rw sdnT wd.heap.size vcabc 25 (.slice a5 s.done.length c5) s.done HQcabc.out (some ⟨z9, 0, none⟩) 1 1 [(⟨⟨ta, ti⟩, false⟩ : Sdn)] rfl HNcabc.out (by have := HZ.out.dlen; omega) HBcabc.out.size
            obtain ⟨a9, d9, e9, hR9, _, hd9, hm9⟩ := hccabce.form sdnT
            rw [List.length_append, List.length_singleton] at e9 hd9
            subst e9
            have HAcabce := Lib.hid hrcabce
            have HBcabce := Lib.hid (HBcabc.out.trans hbcabce)
            have Scabce : PB x s3 A3 ⟨kd, ⟨ta, ti⟩, key, P, false⟩ a c u vcabce := HPd.out.later HBcabce.out
            have hx3 := HBX.out
            have hz3 := HZd.out
            obtain ⟨k8, d0, d1, d2, d3, d4⟩ := Scabce.bs
            obtain ⟨ycabce, hycabce⟩ : ∃ V, vcabce.setCell ⟨x, 3, none⟩ (.slice a9 (s.done.length + 1) d9) = V := ⟨_, rfl⟩
            have hgcabce : vcabce.grownBy ycabce (some x) := hycabce ▸ sc_one _ _ _ _
            have hmcabce : ShM vcabce ⟨s3.rows, s3.holds, s3.opn, s.done ++ [(⟨⟨ta, ti⟩, false⟩ : Sdn)], s3.ver⟩ ⟨A3.ra, A3.rc, A3.ha, A3.hc, A3.oa, A3.oc, A3.om, a9, d9⟩ := by
              have hm := Scabce.m
              exact ⟨hm.rows, hm.holds, hm.om, hm.opn, hm.puts, hR9, ⟨hm.cp.r, hm.cp.h, hm.cp.o, ⟨by rw [List.length_append, List.length_singleton]; exact hd9, hm9⟩, hm.cp.p⟩⟩
            have hbscabce : BS ycabce x ⟨s3.rows, s3.holds, s3.opn, s.done ++ [(⟨⟨ta, ti⟩, false⟩ : Sdn)], s3.ver⟩ ⟨A3.ra, A3.rc, A3.ha, A3.hc, A3.oa, A3.oc, A3.om, a9, d9⟩ := by
              rw [← hycabce]
              exact ⟨k8.set (i := 3) (v := .slice a9 (s.done.length + 1) d9) rfl, by simp [go_sem, d0], by simp [go_sem, d1], by simp [go_sem, d2], by simp [go_sem, d3], by simp [go_sem, d4]⟩
            have HPcabce := Lib.hid (show PB x ⟨s3.rows, s3.holds, s3.opn, s.done ++ [(⟨⟨ta, ti⟩, false⟩ : Sdn)], s3.ver⟩ ⟨A3.ra, A3.rc, A3.ha, A3.hc, A3.oa, A3.oc, A3.om, a9, d9⟩ ⟨kd, ⟨ta, ti⟩, key, P, false⟩ a c u ycabce from ⟨hbscabce, Scabce.ob.grown hgcabce (by omega), hycabce ▸ hmcabce.set k8 fits_s 3 _⟩)
            have HRcabce := Lib.hid ((HRd.out.later HRd.out.size HBcabce.out).grown hgcabce hx3 (by omega) (by omega))
            have HYcabce := Lib.hid hycabce
            have e3 := d3
            have f8 := k8.fz
            clear hrcabce hccabce hbcabce hR9 hd9 hm9 hx3 hz3 k8 d0 d1 d2 d3 d4 hycabce hgcabce hmcabce hbscabce
            refine tillK_step (i := 10) (by kernel_rfl) rfl (by rfl) ?_
            intro Kcabce hKcabce
            have HKcabce := Lib.hid hKcabce
            clear hKcabce
            refine Lib.wp_append_run _ _ _ 25 25 rfl (.slice a5 s.done.length c5) (.slice (some ⟨z9, 0, none⟩) 1 1) rfl rfl _ _ HAcabce.out ?_
            try simp only [Act.put, List.setIfInBounds_toArray]
            try dsimp only
            refine HKcabce.out.out _ _ (fun _ => Scabce) ?_
            refine tillK_step (i := 11) (by kernel_rfl) rfl (by rfl) ?_
            intro Kcabcep hKcabcep
            have HKcabcep := Lib.hid hKcabcep
            clear hKcabcep
            go_wp2_with fail
            refine HKcabcep.out.out _ _ (fun _ => Scabce) ?_
            refine tillK_step (i := 12) (by kernel_rfl) rfl (by rfl) ?_
            intro Kcabceq hKcabceq
            have HKcabceq := Lib.hid hKcabceq
            clear hKcabceq
            go_wp2_with fail
            rw [HYcabce.out]
            refine HKcabceq.out.out _ _ (fun h => by simp at h) ?_
            refine tillK_done (by kernel_rfl) ?_
            go_wp2_with fail
            go_meet
            exact ⟨a9, d9, ycabce, rfl, HPcabce.out, HRcabce.out⟩
          · intro Kcac hKcac
            have HKcac := Lib.hid hKcac
            clear hKcac
            go_wp2_with fail
            obtain ⟨vcac, hvcac⟩ : ∃ V, vca.alloc (.cells #[.int .u64 (ta : Nat), .int .u64 (ti : Nat), .bool false] 68) = V := ⟨_, rfl⟩
            obtain ⟨z9, hz9⟩ : ∃ x, vca.heap.size = x := ⟨_, rfl⟩
            have hbcac : Below vca.heap.size vca vcac := by rw [← hvcac]; go_grown
            have hscac : vcac.heap.size = z9 + 1 := by rw [← hvcac, ← hz9]; simp
            have HNcac := Lib.hid (show Rw 3 sdnC vcac (some ⟨z9, 0, none⟩) [(⟨⟨ta, ti⟩, false⟩ : Sdn)] from hvcac ▸ rw_one (f := sdnC) vca hz9.symm (⟨⟨ta, ti⟩, false⟩ : Sdn) rfl 68)
            have HZcac := Lib.hid (show wd.heap.size ≤ z9 ∧ z9 < vcac.heap.size ∧ vca.heap.size ≤ z9 from ⟨by have := HBca.out.size; omega, by omega, by omega⟩)
            have HBcac := Lib.hid (HBca.out.trans (hbcac.mono HBca.out.size))
            have Scac : PB x s3 A3 ⟨kd, ⟨ta, ti⟩, key, P, false⟩ a c u vcac := HPd.out.later HBcac.out
            rw [hvcac, hz9]
            clear hvcac hz9 hbcac hscac
            try dsimp only
            refine HKcac.out.out _ _ (fun _ => Scac) ?_
            obtain ⟨vv, vcacb, hrcacb, hccacb, _, rr, hgcacb, hr2cacb⟩ := app_rwG sdnT wd.heap.size vcac 25 (.slice (some ⟨z0, 0, none⟩) 0 0) [] (Cq.nil _ _ _) A3.da s.done.length A3.dc s.done rfl (show Rw 3 sdnC vcac A3.da s.done from HD3.out ▸ Scac.m.done) (by simp only [List.length_nil]; have := HZ.out.dlen; omega) HBcac.out.size
            rw [List.nil_append] at hccacb
            obtain ⟨a5, c5, e5, _⟩ := hccacb.form sdnT
            subst e5
            have hg0cacb : vcac.grownBy vcacb (some z0) := by
              cases rr with
              | none => exact grown_none hgcacb _
              | some g =>
                obtain ⟨_, n', c', e⟩ := hr2cacb g rfl
                injection e with e _ _
                injection e with e
                injection e with e
                subst e; exact hgcacb
            have HAcacb := Lib.hid hrcacb
            have HQcacb := Lib.hid hccacb
            have hnecacb : z9 ≠ z0 := by have h1 := HZca.out; have h2 := HZcac.out; omega
            have HNcacb := Lib.hid (rw_grown HNcac.out hg0cacb (fun _ q e e2 => by injection e with e; subst e; exact hnecacb e2))
            clear hnecacb
            have HBcacb := Lib.hid (HBcac.out.grown hg0cacb HBcac.out.size (fun k e => by cases e; exact HZca.out.1))
            have Scacb : PB x s3 A3 ⟨kd, ⟨ta, ti⟩, key, P, false⟩ a c u vcacb := HPd.out.later HBcacb.out
            clear hrcacb hccacb hgcacb hg0cacb hr2cacb
            refine tillK_step (i := 3) (by kernel_rfl) rfl (by rfl) ?_
            intro Kcacb hKcacb
            have HKcacb := Lib.hid hKcacb
            clear hKcacb
            refine Lib.wp_append_run _ _ _ 25 25 rfl (.slice (some ⟨z0, 0, none⟩) 0 0) (.slice A3.da s.done.length A3.dc) rfl rfl _ _ HAcacb.out ?_
            try simp only [Act.put, List.setIfInBounds_toArray]
            try dsimp only
            refine HKcacb.out.out _ _ (fun _ => Scacb) ?_
            obtain ⟨vv2, vcacbe, hrcacbe, hccacbe, hbcacbe⟩ := app_rw sdnT wd.heap.size vcacb 25 (.slice a5 s.done.length c5) s.done HQcacb.out (some ⟨z9, 0, none⟩) 1 1 [(⟨⟨ta, ti⟩, false⟩ : Sdn)] rfl HNcacb.out (by have := HZ.out.dlen; omega) HBcacb.out.size
            obtain ⟨a9, d9, e9, hR9, _, hd9, hm9⟩ := hccacbe.form sdnT
            rw [List.length_append, List.length_singleton] at e9 hd9
            subst e9
            have HAcacbe := Lib.hid hrcacbe
            have HBcacbe := Lib.hid (HBcacb.out.trans hbcacbe)
            have Scacbe : PB x s3 A3 ⟨kd, ⟨ta, ti⟩, key, P, false⟩ a c u vcacbe := HPd.out.later HBcacbe.out
            have hx3 := HBX.out
            have hz3 := HZd.out
            obtain ⟨k8, d0, d1, d2, d3, d4⟩ := Scacbe.bs
            obtain ⟨ycacbe, hycacbe⟩ : ∃ V, vcacbe.setCell ⟨x, 3, none⟩ (.slice a9 (s.done.length + 1) d9) = V := ⟨_, rfl⟩
            have hgcacbe : vcacbe.grownBy ycacbe (some x) := hycacbe ▸ sc_one _ _ _ _
            have hmcacbe : ShM vcacbe ⟨s3.rows, s3.holds, s3.opn, s.done ++ [(⟨⟨ta, ti⟩, false⟩ : Sdn)], s3.ver⟩ ⟨A3.ra, A3.rc, A3.ha, A3.hc, A3.oa, A3.oc, A3.om, a9, d9⟩ := by
              have hm := Scacbe.m
              exact ⟨hm.rows, hm.holds, hm.om, hm.opn, hm.puts, hR9, ⟨hm.cp.r, hm.cp.h, hm.cp.o, ⟨by rw [List.length_append, List.length_singleton]; exact hd9, hm9⟩, hm.cp.p⟩⟩
            have hbscacbe : BS ycacbe x ⟨s3.rows, s3.holds, s3.opn, s.done ++ [(⟨⟨ta, ti⟩, false⟩ : Sdn)], s3.ver⟩ ⟨A3.ra, A3.rc, A3.ha, A3.hc, A3.oa, A3.oc, A3.om, a9, d9⟩ := by
              rw [← hycacbe]
              exact ⟨k8.set (i := 3) (v := .slice a9 (s.done.length + 1) d9) rfl, by simp [go_sem, d0], by simp [go_sem, d1], by simp [go_sem, d2], by simp [go_sem, d3], by simp [go_sem, d4]⟩
            have HPcacbe := Lib.hid (show PB x ⟨s3.rows, s3.holds, s3.opn, s.done ++ [(⟨⟨ta, ti⟩, false⟩ : Sdn)], s3.ver⟩ ⟨A3.ra, A3.rc, A3.ha, A3.hc, A3.oa, A3.oc, A3.om, a9, d9⟩ ⟨kd, ⟨ta, ti⟩, key, P, false⟩ a c u ycacbe from ⟨hbscacbe, Scacbe.ob.grown hgcacbe (by omega), hycacbe ▸ hmcacbe.set k8 fits_s 3 _⟩)
            have HRcacbe := Lib.hid ((HRd.out.later HRd.out.size HBcacbe.out).grown hgcacbe hx3 (by omega) (by omega))
            have HYcacbe := Lib.hid hycacbe
            have e3 := d3
            have f8 := k8.fz
            clear hrcacbe hccacbe hbcacbe hR9 hd9 hm9 hx3 hz3 k8 d0 d1 d2 d3 d4 hycacbe hgcacbe hmcacbe hbscacbe
            refine tillK_step (i := 10) (by kernel_rfl) rfl (by rfl) ?_
            intro Kcacbe hKcacbe
            have HKcacbe := Lib.hid hKcacbe
            clear hKcacbe
            refine Lib.wp_append_run _ _ _ 25 25 rfl (.slice a5 s.done.length c5) (.slice (some ⟨z9, 0, none⟩) 1 1) rfl rfl _ _ HAcacbe.out ?_
            try simp only [Act.put]
            try dsimp only
            refine HKcacbe.out.out _ _ (fun _ => Scacbe) ?_
            refine tillK_step (i := 11) (by kernel_rfl) rfl (by rfl) ?_
            intro Kcacbep hKcacbep
            have HKcacbep := Lib.hid hKcacbep
            clear hKcacbep
            go_wp2_with fail
            refine HKcacbep.out.out _ _ (fun _ => Scacbe) ?_
            refine tillK_step (i := 12) (by kernel_rfl) rfl (by rfl) ?_
            intro Kcacbeq hKcacbeq
            have HKcacbeq := Lib.hid hKcacbeq
            clear hKcacbeq
            go_wp2_with fail
            rw [HYcacbe.out]
            refine HKcacbeq.out.out _ _ (fun h => by simp at h) ?_
            refine tillK_done (by kernel_rfl) ?_
            go_wp2_with fail
            go_meet
            exact ⟨a9, d9, ycacbe, rfl, HPcacbe.out, HRcacbe.out⟩
        · intro Kcc hKcc
          have HKcc := Lib.hid hKcc
          clear hKcc
          go_wp2_with fail
          obtain ⟨vcc, hvcc⟩ : ∃ V, wd.alloc (.cells #[.int .u64 (ta : Nat), .int .u64 (ti : Nat), .bool false] 68) = V := ⟨_, rfl⟩
          obtain ⟨z9, hz9⟩ : ∃ x, wd.heap.size = x := ⟨_, rfl⟩
          have hbcc : Below wd.heap.size wd vcc := by rw [← hvcc]; go_grown
          have hscc : vcc.heap.size = z9 + 1 := by rw [← hvcc, ← hz9]; simp
          have HNcc := Lib.hid (show Rw 3 sdnC vcc (some ⟨z9, 0, none⟩) [(⟨⟨ta, ti⟩, false⟩ : Sdn)] from hvcc ▸ rw_one (f := sdnC) wd hz9.symm (⟨⟨ta, ti⟩, false⟩ : Sdn) rfl 68)
          have HZcc := Lib.hid (show wd.heap.size ≤ z9 ∧ z9 < vcc.heap.size ∧ wd.heap.size ≤ z9 from ⟨by have := HBd.out.size; omega, by omega, by omega⟩)
          have HBcc := Lib.hid (HBd.out.trans (hbcc.mono HBd.out.size))
          have Scc : PB x s3 A3 ⟨kd, ⟨ta, ti⟩, key, P, false⟩ a c u vcc := HPd.out.later HBcc.out
          rw [hvcc, hz9]
          clear hvcc hz9 hbcc hscc
          try dsimp only
          refine HKcc.out.out _ _ (fun _ => Scc) ?_
          refine tillK_step (i := 0) (by kernel_rfl) rfl (by rfl) ?_
          intro Kcca hKcca
          have HKcca := Lib.hid hKcca
          clear hKcca
          go_wp2_with fail
          obtain ⟨vcca, hvcca⟩ : ∃ V, vcc.alloc (.cells #[] 68) = V := ⟨_, rfl⟩
          obtain ⟨z0, hz0⟩ : ∃ x, vcc.heap.size = x := ⟨_, rfl⟩
          have hbcca : Below vcc.heap.size vcc vcca := by rw [← hvcca]; go_grown
          have hscca : vcca.heap.size = z0 + 1 := by rw [← hvcca, ← hz0]; simp
          have HNcca := Lib.hid (HNcc.out.later hbcca)
          have HZcca := Lib.hid (show wd.heap.size ≤ z0 ∧ z0 < vcca.heap.size ∧ vcc.heap.size ≤ z0 from ⟨by have := HBcc.out.size; omega, by omega, by omega⟩)
          have HBcca := Lib.hid (HBcc.out.trans (hbcca.mono HBcc.out.size))
          have Scca : PB x s3 A3 ⟨kd, ⟨ta, ti⟩, key, P, false⟩ a c u vcca := HPd.out.later HBcca.out
          rw [hvcca, hz0]
          clear hvcca hz0 hbcca hscca
          try dsimp only
          refine HKcca.out.out _ _ (fun _ => Scca) ?_
          obtain ⟨vv, vccab, hrccab, hcccab, _, rr, hgccab, hr2ccab⟩ := app_rwG sdnT wd.heap.size vcca 25 (.slice (some ⟨z0, 0, none⟩) 0 0) [] (Cq.nil _ _ _) A3.da s.done.length A3.dc s.done rfl (show Rw 3 sdnC vcca A3.da s.done from HD3.out ▸ Scca.m.done) (by simp only [List.length_nil]; have := HZ.out.dlen; omega) HBcca.out.size
          rw [List.nil_append] at hcccab
          obtain ⟨a5, c5, e5, _⟩ := hcccab.form sdnT
          subst e5
          have hg0ccab : vcca.grownBy vccab (some z0) := by
            cases rr with
            | none => exact grown_none hgccab _
            | some g =>
              obtain ⟨_, n', c', e⟩ := hr2ccab g rfl
              injection e with e _ _
              injection e with e
              injection e with e
              subst e; exact hgccab
          have HAccab := Lib.hid hrccab
          have HQccab := Lib.hid hcccab
          have hneccab : z9 ≠ z0 := by have h1 := HZcca.out; have h2 := HZcc.out; omega
          have HNccab := Lib.hid (rw_grown HNcca.out hg0ccab (fun _ q e e2 => by injection e with e; subst e; exact hneccab e2))
          clear hneccab
          have HBccab := Lib.hid (HBcca.out.grown hg0ccab HBcca.out.size (fun k e => by cases e; exact HZcca.out.1))
          have Sccab : PB x s3 A3 ⟨kd, ⟨ta, ti⟩, key, P, false⟩ a c u vccab := HPd.out.later HBccab.out
          clear hrccab hcccab hgccab hg0ccab hr2ccab
          refine tillK_step (i := 3) (by kernel_rfl) rfl (by rfl) ?_
          intro Kccab hKccab
          have HKccab := Lib.hid hKccab
          clear hKccab
          refine Lib.wp_append_run _ _ _ 25 25 rfl (.slice (some ⟨z0, 0, none⟩) 0 0) (.slice A3.da s.done.length A3.dc) rfl rfl _ _ HAccab.out ?_
          try simp only [Act.put, List.setIfInBounds_toArray]
          try dsimp only
          refine HKccab.out.out _ _ (fun _ => Sccab) ?_
          obtain ⟨vv2, vccabe, hrccabe, hcccabe, hbccabe⟩ := app_rw sdnT wd.heap.size vccab 25 (.slice a5 s.done.length c5) s.done HQccab.out (some ⟨z9, 0, none⟩) 1 1 [(⟨⟨ta, ti⟩, false⟩ : Sdn)] rfl HNccab.out (by have := HZ.out.dlen; omega) HBccab.out.size
          obtain ⟨a9, d9, e9, hR9, _, hd9, hm9⟩ := hcccabe.form sdnT
          rw [List.length_append, List.length_singleton] at e9 hd9
          subst e9
          have HAccabe := Lib.hid hrccabe
          have HBccabe := Lib.hid (HBccab.out.trans hbccabe)
          have Sccabe : PB x s3 A3 ⟨kd, ⟨ta, ti⟩, key, P, false⟩ a c u vccabe := HPd.out.later HBccabe.out
          have hx3 := HBX.out
          have hz3 := HZd.out
          obtain ⟨k8, d0, d1, d2, d3, d4⟩ := Sccabe.bs
          obtain ⟨yccabe, hyccabe⟩ : ∃ V, vccabe.setCell ⟨x, 3, none⟩ (.slice a9 (s.done.length + 1) d9) = V := ⟨_, rfl⟩
          have hgccabe : vccabe.grownBy yccabe (some x) := hyccabe ▸ sc_one _ _ _ _
          have hmccabe : ShM vccabe ⟨s3.rows, s3.holds, s3.opn, s.done ++ [(⟨⟨ta, ti⟩, false⟩ : Sdn)], s3.ver⟩ ⟨A3.ra, A3.rc, A3.ha, A3.hc, A3.oa, A3.oc, A3.om, a9, d9⟩ := by
            have hm := Sccabe.m
            exact ⟨hm.rows, hm.holds, hm.om, hm.opn, hm.puts, hR9, ⟨hm.cp.r, hm.cp.h, hm.cp.o, ⟨by rw [List.length_append, List.length_singleton]; exact hd9, hm9⟩, hm.cp.p⟩⟩
          have hbsccabe : BS yccabe x ⟨s3.rows, s3.holds, s3.opn, s.done ++ [(⟨⟨ta, ti⟩, false⟩ : Sdn)], s3.ver⟩ ⟨A3.ra, A3.rc, A3.ha, A3.hc, A3.oa, A3.oc, A3.om, a9, d9⟩ := by
            rw [← hyccabe]
            exact ⟨k8.set (i := 3) (v := .slice a9 (s.done.length + 1) d9) rfl, by simp [go_sem, d0], by simp [go_sem, d1], by simp [go_sem, d2], by simp [go_sem, d3], by simp [go_sem, d4]⟩
          have HPccabe := Lib.hid (show PB x ⟨s3.rows, s3.holds, s3.opn, s.done ++ [(⟨⟨ta, ti⟩, false⟩ : Sdn)], s3.ver⟩ ⟨A3.ra, A3.rc, A3.ha, A3.hc, A3.oa, A3.oc, A3.om, a9, d9⟩ ⟨kd, ⟨ta, ti⟩, key, P, false⟩ a c u yccabe from ⟨hbsccabe, Sccabe.ob.grown hgccabe (by omega), hyccabe ▸ hmccabe.set k8 fits_s 3 _⟩)
          have HRccabe := Lib.hid ((HRd.out.later HRd.out.size HBccabe.out).grown hgccabe hx3 (by omega) (by omega))
          have HYccabe := Lib.hid hyccabe
          have e3 := d3
          have f8 := k8.fz
          clear hrccabe hcccabe hbccabe hR9 hd9 hm9 hx3 hz3 k8 d0 d1 d2 d3 d4 hyccabe hgccabe hmccabe hbsccabe
          refine tillK_step (i := 10) (by kernel_rfl) rfl (by rfl) ?_
          intro Kccabe hKccabe
          have HKccabe := Lib.hid hKccabe
          clear hKccabe
          refine Lib.wp_append_run _ _ _ 25 25 rfl (.slice a5 s.done.length c5) (.slice (some ⟨z9, 0, none⟩) 1 1) rfl rfl _ _ HAccabe.out ?_
          try simp only [Act.put]
          try dsimp only
          refine HKccabe.out.out _ _ (fun _ => Sccabe) ?_
          refine tillK_step (i := 11) (by kernel_rfl) rfl (by rfl) ?_
          intro Kccabep hKccabep
          have HKccabep := Lib.hid hKccabep
          clear hKccabep
          go_wp2_with fail
          refine HKccabep.out.out _ _ (fun _ => Sccabe) ?_
          refine tillK_step (i := 12) (by kernel_rfl) rfl (by rfl) ?_
          intro Kccabeq hKccabeq
          have HKccabeq := Lib.hid hKccabeq
          clear hKccabeq
          go_wp2_with fail
          rw [HYccabe.out]
          refine HKccabeq.out.out _ _ (fun h => by simp at h) ?_
          refine tillK_done (by kernel_rfl) ?_
          go_wp2_with fail
          go_meet
          exact ⟨a9, d9, yccabe, rfl, HPccabe.out, HRccabe.out⟩
      case rest =>
        obtain ⟨a9, d9, w11, rfl, hP11, hR11⟩ := hcut
        obtain ⟨s9, hs9⟩ : ∃ z : Sh, (⟨s3.rows, s3.holds, s3.opn, s.done ++ [(⟨⟨ta, ti⟩, false⟩ : Sdn)], s3.ver⟩ : Sh) = z := ⟨_, rfl⟩
        obtain ⟨A9, hA9⟩ : ∃ z : Sad, (⟨A3.ra, A3.rc, A3.ha, A3.hc, A3.oa, A3.oc, A3.om, a9, d9⟩ : Sad) = z := ⟨_, rfl⟩
        have HE9 := HES
        rw [hs9] at HE9
        rw [hs9, hA9] at hP11
        have HP11 := Lib.hid hP11
        have HR11 := Lib.hid hR11
        clear hP11 hR11 hs9 hA9 HES
        go_upto_region 29 with (fail)
        refine tillK_begin (S := PB x s9 A9 ⟨kd, ⟨ta, ti⟩, key, P, false⟩ a c u) (k := 5) (by kernel_rfl) ?_
        have S0 : PB x s9 A9 ⟨kd, ⟨ta, ti⟩, key, P, false⟩ a c u w11.drew := HP11.out.later (Below.refl _ _).drew
        have HRe := Lib.hid (HR11.out.later HR11.out.size (Below.refl _ _).drew)
        have HFI := Lib.hid (OrB.mk' (r := (s9, ansC 0 false)) HR11.out HP11.out.m)
        have HX4 := Lib.hid (fun v0 v1 v2 v3 v4 (e : sK = [kdV v0, kdV v1, kdV v2, kdV v3, kdV v4]) => (HP11.out.set4 HR11.out.s (by omega) v0 v1 v2 v3 v4 e).later (Below.refl _ _).drew)
        refine tillK_take (i := 0) (v := .agg #[.slice A9.ra s9.rows.length A9.rc, .slice A9.ha s9.holds.length A9.hc, .slice A9.oa s9.opn.length A9.oc, .slice A9.da s9.done.length A9.dc, .int .u64 (s9.ver : Nat)]) rfl (by kernel_rfl) (by kernel_rfl) (by kernel_rfl) (by kernel_rfl) (by kernel_rfl) (by kernel_rfl) (fun _ _ _ h => h) (Or.inl ⟨by rfl, ?hycz_0⟩) (by assumption) ?restcz_0
        case hycz_0 =>
          rintro w' ⟨hb, ho, hm⟩
          obtain ⟨_, c0, c1, c2, c3, c4⟩ := hb
          obtain ⟨_, q0, q1, q2, q3, q4, q5, q6⟩ := ho
          simp only at q0 q1 q2 q3 q4 q5
          go_simp
        try simp only [Act.put, List.setIfInBounds_toArray]
        refine tillK_take (i := 1) (v := .pointer (some ⟨x + 1, 5, none⟩)) rfl (by kernel_rfl) (by kernel_rfl) (by kernel_rfl) (by kernel_rfl) (by kernel_rfl) (by kernel_rfl) (fun _ _ _ h => h) (Or.inl ⟨by rfl, ?hycz_1⟩) (by assumption) ?restcz_1
        case hycz_1 =>
          rintro w' ⟨hb, ho, hm⟩
          obtain ⟨_, c0, c1, c2, c3, c4⟩ := hb
          obtain ⟨_, q0, q1, q2, q3, q4, q5, q6⟩ := ho
          simp only at q0 q1 q2 q3 q4 q5
          go_simp
        try simp only [Act.put]
        refine tillK_take (i := 2) (v := .bool false) rfl (by kernel_rfl) (by kernel_rfl) (by kernel_rfl) (by kernel_rfl) (by kernel_rfl) (by kernel_rfl) (fun _ _ _ h => h) (Or.inl ⟨by rfl, ?hycz_2⟩) (by assumption) ?restcz_2
        case hycz_2 =>
          rintro w' ⟨hb, ho, hm⟩
          obtain ⟨_, c0, c1, c2, c3, c4⟩ := hb
          obtain ⟨_, q0, q1, q2, q3, q4, q5, q6⟩ := ho
          simp only at q0 q1 q2 q3 q4 q5
          go_simp
        try simp only [Act.put]
        refine tillK_take (i := 3) (v := .agg #[.int .i64 0, .string ⟨#[]⟩, .int .u64 0, .bool false, .bool false]) rfl (by kernel_rfl) (by kernel_rfl) (by kernel_rfl) (by kernel_rfl) (by kernel_rfl) (by kernel_rfl) (fun _ _ _ h => h) (Or.inl ⟨by rfl, ?hycz_3⟩) (by assumption) ?restcz_3
        case hycz_3 =>
          rintro w' ⟨hb, ho, hm⟩
          obtain ⟨_, c0, c1, c2, c3, c4⟩ := hb
          obtain ⟨_, q0, q1, q2, q3, q4, q5, q6⟩ := ho
          simp only at q0 q1 q2 q3 q4 q5
          go_simp
        try simp only [Act.put]
        have e0 := HR11.out.s.cv 0 (by decide)
        have e1 := HR11.out.s.cv 1 (by decide)
        have e2 := HR11.out.s.cv 2 (by decide)
        have e3 := HR11.out.s.cv 3 (by decide)
        have e4 := HR11.out.s.cv 4 (by decide)
        have g0 := HR11.out.a.cv 0 (by decide)
        have g1 := HR11.out.a.cv 1 (by decide)
        have g2 := HR11.out.a.cv 2 (by decide)
        have g3 := HR11.out.a.cv 3 (by decide)
        have g4 := HR11.out.a.cv 4 (by decide)
        have f4 := HR11.out.s.fz
        have f5 := HR11.out.a.fz
        refine tillK_step (i := 4) (by kernel_rfl) rfl (by rfl) ?_
        intro Kcz_4 hKcz_4
        have HKcz_4 := Lib.hid hKcz_4
        clear hKcz_4
        go_wp2_with fail
        refine HKcz_4.out.out _ _ (fun _ => HX4.out _ _ _ _ _ rfl) ?_
        refine tillK_step (i := 5) (by kernel_rfl) rfl (by rfl) ?_
        intro Kcz_5 hKcz_5
        have HKcz_5 := Lib.hid hKcz_5
        clear hKcz_5
        go_wp2_with fail
        refine HKcz_5.out.out _ _ (fun h => by simp at h) ?_
        refine tillK_done (by kernel_rfl) ?_
        clear S0
        go_wp2_with fail
        refine bodyPost_ret (v := .tuple #[shV s9 A9, ansV (ansC 0 false)]) (by simp [results, Try.results24, go_sem, e0, e1, e2, e3, e4, g0, g1, g2, g3, g4, ansC]) rfl ?_
        rw [HE9.out]
        exact (HFI.out _ rfl).drew
end Go.Proofs.Ythgnecggdlamfaa
