/- The document's asks: one that is not known. -/
import Derived.Test.YthgnecggdlamfaaEr
namespace Go.Proofs.Ythgnecggdlamfaa
open Go.RowKit

set_option maxRecDepth 100000 in
set_option maxHeartbeats 8000000 in
theorem asksNone_any (B : Nat) (s : Sh) (A : Sad) (o : Odr) (a : Option Addr) (c : Nat) (q : Option Addr) (qn qc : Nat) (w : World) (hM : ShM w s A) (hB : B ≤ w.heap.size) (zs : SzS s) (zo : SzO o) (hov : oixS o.t 0 s.done = none ∧ ovrS o.t s.done = none) (hkn : kixS o.t 0 s.opn = none ∧ knoS o.t s.opn = none) :
    Calls Try.prog 22 #[shV s A, odrV o a c (.slice q qn qc)] w (OrB B w (asksS s o)) := by
  obtain ⟨u, hu⟩ : ∃ u, Value.slice q qn qc = u := ⟨_, rfl⟩
  rw [hu]
  clear hu
  obtain ⟨W, hW⟩ : ∃ W, doW w s A o a c u = W := ⟨_, rfl⟩
  obtain ⟨x, hx⟩ : ∃ x, w.heap.size = x := ⟨_, rfl⟩
  obtain ⟨hS, hO, hR, hBW, hsz⟩ := four hW hx
  have hol : s.opn.length ≤ 140737488351232 := by have := zs.olen; omega
  have hdl : s.done.length ≤ 140737488351232 := by have := zs.dlen; omega
  have HP := Lib.hid (show PB x s A o a c u W from ⟨hS, hO, hM.later hBW⟩)
  have HR := Lib.hid (show RsC B w W (x + 1 + 1) (x + 1 + 1 + 1) from ⟨hR.s, hR.a, Nat.le_trans hB hR.l4, hR.l5, hR.b.mono hB⟩)
  have HBX := Lib.hid (show B ≤ x from hx ▸ hB)
  have HDA := Lib.hid (fun w' (h : Below W.heap.size W w') => rOver_any s A o.t hdl w' ((hM.later hBW).later h))
  have HOA := Lib.hid (fun w' (h : Below W.heap.size W w') => rKnown_any s A o.t hol w' ((hM.later hBW).later h))
  have HZ := Lib.hid zs
  have HZO := Lib.hid zo
  have HW := Lib.hid hW
  have HX := Lib.hid hx
  have HSZ := Lib.hid hsz
  obtain ⟨kd, ⟨ta, ti⟩, key, P, cm⟩ := o
  obtain ⟨r, hr⟩ : ∃ r, asksS s ⟨kd, ⟨ta, ti⟩, key, P, cm⟩ = r := ⟨_, rfl⟩
  rw [hr]
  have HRR := Lib.hid hr
  obtain ⟨_, q0, q1, q2, q3, q4, q5, q6⟩ := hO
  obtain ⟨_, c0, c1, c2, c3, c4⟩ := hS
  simp only at q0 q1 q2 q3 q4 q5 HDA HOA
  simp only at hov hkn
  have HOVH := Lib.hid hov
  have HKNH := Lib.hid hkn
  clear hov hkn
  clear hM hB zs zo hR hBW hsz hW hx hr
  go_enter Try.func22, Try.ntmps22
  go_wp2_with fail
  have hWX := HW.out
  simp only [doW] at hWX
  rw [hWX, HX.out]
  clear hWX
  go_wp2_with fail
  refine (HDA.out W (Below.refl _ _)).mono ?_
  rintro e w1 ⟨rfl, hb1⟩
  have HB1 := Lib.hid hb1
  have HP1 := Lib.hid (HP.out.later hb1)
  have HR1 := Lib.hid (HR.out.later HR.out.size hb1)
  clear hb1 c0 c1 c2 c3 c4 q0 q1 q2 q3 q4 q5 q6
  obtain ⟨_, c0, c1, c2, c3, c4⟩ := HP1.out.bs
  obtain ⟨_, q0, q1, q2, q3, q4, q5, q6⟩ := HP1.out.ob
  simp only at q0 q1 q2 q3 q4 q5
  go_wp2_with fail
  refine (HOA.out w1 HB1.out).mono ?_
  rintro e w2 ⟨rfl, hb2⟩
  have HB2 := Lib.hid (HB1.out.trans (hb2.mono HB1.out.size))
  have HP2 := Lib.hid (HP1.out.later hb2)
  have HR2 := Lib.hid (HR1.out.later HR1.out.size hb2)
  clear hb2 c0 c1 c2 c3 c4 q0 q1 q2 q3 q4 q5 q6
  have hov := HOVH.out
  rw [hov.1]
  have gI : ixI none = -1 := rfl
  rw [gI]
  have HOV := Lib.hid hov.2
  have hkn := HKNH.out
  rw [hkn.1]
  have gI : ixI none = -1 := rfl
  rw [gI]
  have hk2 := hkn.2
  clear gI hkn hov
  obtain ⟨_, c0, c1, c2, c3, c4⟩ := HP2.out.bs
  obtain ⟨_, q0, q1, q2, q3, q4, q5, q6⟩ := HP2.out.ob
  simp only at q0 q1 q2 q3 q4 q5
  by_cases hb1 : key.size < 1
  · have HE := Lib.hid (show r = (s, ansE 1) from by rw [← HRR.out]; unfold asksS; rw [HOV.out]; simp only; rw [if_pos (.inl hb1)])
    have k1 : (key.size : Int) < 1 := by omega
    clear hk2
    go_upto_region 6 with (fail)
    refine tillK_begin (S := PB x s A ⟨kd, ⟨ta, ti⟩, key, P, cm⟩ a c u) (k := 3) (by kernel_rfl) ?_
    have S0 : PB x s A ⟨kd, ⟨ta, ti⟩, key, P, cm⟩ a c u w2.drew := HP2.out.later (Below.refl _ _).drew
    have HRe := Lib.hid (HR2.out.later HR2.out.size (Below.refl _ _).drew)
    refine tillK_take (i := 0) (v := .agg #[.slice A.ra s.rows.length A.rc, .slice A.ha s.holds.length A.hc, .slice A.oa s.opn.length A.oc, .slice A.da s.done.length A.dc, .int .u64 (s.ver : Nat)]) rfl (by kernel_rfl) (by kernel_rfl) (by kernel_rfl) (by kernel_rfl) (by kernel_rfl) (by kernel_rfl) (fun _ _ _ h => h) (Or.inl ⟨by rfl, ?hya_0⟩) (by assumption) ?resta_0
    case hya_0 =>
      rintro w' ⟨hb, ho, hm⟩
      obtain ⟨_, c0, c1, c2, c3, c4⟩ := hb
      obtain ⟨_, q0, q1, q2, q3, q4, q5, q6⟩ := ho
      simp only at q0 q1 q2 q3 q4 q5
      go_simp
    try simp only [Act.put, List.setIfInBounds_toArray]
    refine tillK_step (i := 1) (by kernel_rfl) rfl (by rfl) ?_
    intro Ka_1 hKa_1
    have HKa_1 := Lib.hid hKa_1
    clear hKa_1
    go_wp2_with fail
    refine (rNo_any 1 _).mono ?_
    rintro e w7 ⟨rfl, hb7⟩
    have HP7 := Lib.hid (S0.later hb7)
    have HR7 := Lib.hid (HRe.out.later HRe.out.size hb7)
    have HFI := Lib.hid (OrB.mk' (r := (s, ansE 1)) HR7.out HP7.out.m)
    have HX4 := Lib.hid (fun v0 v1 v2 v3 v4 (e : sK = [kdV v0, kdV v1, kdV v2, kdV v3, kdV v4]) => HP7.out.set4 HR7.out.s (by omega) v0 v1 v2 v3 v4 e)
    have e0 := HR7.out.s.cv 0 (by decide)
    have e1 := HR7.out.s.cv 1 (by decide)
    have e2 := HR7.out.s.cv 2 (by decide)
    have e3 := HR7.out.s.cv 3 (by decide)
    have e4 := HR7.out.s.cv 4 (by decide)
    have g0 := HR7.out.a.cv 0 (by decide)
    have g1 := HR7.out.a.cv 1 (by decide)
    have g2 := HR7.out.a.cv 2 (by decide)
    have g3 := HR7.out.a.cv 3 (by decide)
    have g4 := HR7.out.a.cv 4 (by decide)
    have f4 := HR7.out.s.fz
    have f5 := HR7.out.a.fz
    clear hb7
    try dsimp only
    refine HKa_1.out.out _ _ (fun _ => HP7.out) ?_
    refine tillK_step (i := 2) (by kernel_rfl) rfl (by rfl) ?_
    intro Ka_2 hKa_2
    have HKa_2 := Lib.hid hKa_2
    clear hKa_2
    go_wp2_with fail
    refine HKa_2.out.out _ _ (fun _ => HX4.out _ _ _ _ _ rfl) ?_
    refine tillK_step (i := 3) (by kernel_rfl) rfl (by rfl) ?_
    intro Ka_3 hKa_3
    have HKa_3 := Lib.hid hKa_3
    clear hKa_3
    go_wp2_with fail
    refine HKa_3.out.out _ _ (fun h => by simp at h) ?_
    refine tillK_done (by kernel_rfl) ?_
    clear S0
    go_wp2_with fail
    refine bodyPost_ret (v := .tuple #[shV s A, ansV (ansE 1)]) (by simp [results, Try.results22, go_sem, e0, e1, e2, e3, e4, g0, g1, g2, g3, g4, ansE]) rfl ?_
    rw [HE.out]
    exact HFI.out _ rfl
  have k1 : ¬ (key.size : Int) < 1 := by omega
  by_cases hb2 : 16 < key.size
  · have HE := Lib.hid (show r = (s, ansE 1) from by rw [← HRR.out]; unfold asksS; rw [HOV.out]; simp only; rw [if_pos (.inr hb2)])
    have k2 : (16 : Int) < (key.size : Int) := by omega
    clear hk2
    go_upto_region 6 with (fail)
    refine tillK_begin (S := PB x s A ⟨kd, ⟨ta, ti⟩, key, P, cm⟩ a c u) (k := 3) (by kernel_rfl) ?_
    have S0 : PB x s A ⟨kd, ⟨ta, ti⟩, key, P, cm⟩ a c u w2.drew := HP2.out.later (Below.refl _ _).drew
    have HRe := Lib.hid (HR2.out.later HR2.out.size (Below.refl _ _).drew)
    refine tillK_take (i := 0) (v := .agg #[.slice A.ra s.rows.length A.rc, .slice A.ha s.holds.length A.hc, .slice A.oa s.opn.length A.oc, .slice A.da s.done.length A.dc, .int .u64 (s.ver : Nat)]) rfl (by kernel_rfl) (by kernel_rfl) (by kernel_rfl) (by kernel_rfl) (by kernel_rfl) (by kernel_rfl) (fun _ _ _ h => h) (Or.inl ⟨by rfl, ?hyb_0⟩) (by assumption) ?restb_0
    case hyb_0 =>
      rintro w' ⟨hb, ho, hm⟩
      obtain ⟨_, c0, c1, c2, c3, c4⟩ := hb
      obtain ⟨_, q0, q1, q2, q3, q4, q5, q6⟩ := ho
      simp only at q0 q1 q2 q3 q4 q5
      go_simp
    try simp only [Act.put, List.setIfInBounds_toArray]
    refine tillK_step (i := 1) (by kernel_rfl) rfl (by rfl) ?_
    intro Kb_1 hKb_1
    have HKb_1 := Lib.hid hKb_1
    clear hKb_1
    go_wp2_with fail
    refine (rNo_any 1 _).mono ?_
    rintro e w7 ⟨rfl, hb7⟩
    have HP7 := Lib.hid (S0.later hb7)
    have HR7 := Lib.hid (HRe.out.later HRe.out.size hb7)
    have HFI := Lib.hid (OrB.mk' (r := (s, ansE 1)) HR7.out HP7.out.m)
    have HX4 := Lib.hid (fun v0 v1 v2 v3 v4 (e : sK = [kdV v0, kdV v1, kdV v2, kdV v3, kdV v4]) => HP7.out.set4 HR7.out.s (by omega) v0 v1 v2 v3 v4 e)
    have e0 := HR7.out.s.cv 0 (by decide)
    have e1 := HR7.out.s.cv 1 (by decide)
    have e2 := HR7.out.s.cv 2 (by decide)
    have e3 := HR7.out.s.cv 3 (by decide)
    have e4 := HR7.out.s.cv 4 (by decide)
    have g0 := HR7.out.a.cv 0 (by decide)
    have g1 := HR7.out.a.cv 1 (by decide)
    have g2 := HR7.out.a.cv 2 (by decide)
    have g3 := HR7.out.a.cv 3 (by decide)
    have g4 := HR7.out.a.cv 4 (by decide)
    have f4 := HR7.out.s.fz
    have f5 := HR7.out.a.fz
    clear hb7
    try dsimp only
    refine HKb_1.out.out _ _ (fun _ => HP7.out) ?_
    refine tillK_step (i := 2) (by kernel_rfl) rfl (by rfl) ?_
    intro Kb_2 hKb_2
    have HKb_2 := Lib.hid hKb_2
    clear hKb_2
    go_wp2_with fail
    refine HKb_2.out.out _ _ (fun _ => HX4.out _ _ _ _ _ rfl) ?_
    refine tillK_step (i := 3) (by kernel_rfl) rfl (by rfl) ?_
    intro Kb_3 hKb_3
    have HKb_3 := Lib.hid hKb_3
    clear hKb_3
    go_wp2_with fail
    refine HKb_3.out.out _ _ (fun h => by simp at h) ?_
    refine tillK_done (by kernel_rfl) ?_
    clear S0
    go_wp2_with fail
    refine bodyPost_ret (v := .tuple #[shV s A, ansV (ansE 1)]) (by simp [results, Try.results22, go_sem, e0, e1, e2, e3, e4, g0, g1, g2, g3, g4, ansE]) rfl ?_
    rw [HE.out]
    exact HFI.out _ rfl
  have k2 : ¬ (16 : Int) < (key.size : Int) := by omega
  by_cases h64 : 64 ≤ s.opn.length + s.done.length
  · have HE := Lib.hid (show r = (s, ansE 5) from by rw [← HRR.out]; unfold asksS; rw [HOV.out]; simp only; rw [if_neg (by omega), hk2]; simp only [Option.any_none, Bool.false_eq_true, if_false, Option.isNone_none, true_and, if_pos h64])
    have i6 : (64 : Int) ≤ (s.opn.length : Int) + (s.done.length : Int) := by omega
    clear hk2
    go_upto_region 12 with (fail)
    refine tillK_begin (S := PB x s A ⟨kd, ⟨ta, ti⟩, key, P, cm⟩ a c u) (k := 3) (by kernel_rfl) ?_
    have S0 : PB x s A ⟨kd, ⟨ta, ti⟩, key, P, cm⟩ a c u w2.drew := HP2.out.later (Below.refl _ _).drew
    have HRe := Lib.hid (HR2.out.later HR2.out.size (Below.refl _ _).drew)
    refine tillK_take (i := 0) (v := .agg #[.slice A.ra s.rows.length A.rc, .slice A.ha s.holds.length A.hc, .slice A.oa s.opn.length A.oc, .slice A.da s.done.length A.dc, .int .u64 (s.ver : Nat)]) rfl (by kernel_rfl) (by kernel_rfl) (by kernel_rfl) (by kernel_rfl) (by kernel_rfl) (by kernel_rfl) (fun _ _ _ h => h) (Or.inl ⟨by rfl, ?hyc_0⟩) (by assumption) ?restc_0
    case hyc_0 =>
      rintro w' ⟨hb, ho, hm⟩
      obtain ⟨_, c0, c1, c2, c3, c4⟩ := hb
      obtain ⟨_, q0, q1, q2, q3, q4, q5, q6⟩ := ho
      simp only at q0 q1 q2 q3 q4 q5
      go_simp
    try simp only [Act.put, List.setIfInBounds_toArray]
    refine tillK_step (i := 1) (by kernel_rfl) rfl (by rfl) ?_
    intro Kc_1 hKc_1
    have HKc_1 := Lib.hid hKc_1
    clear hKc_1
    go_wp2_with fail
    refine (rNo_any 5 _).mono ?_
    rintro e w7 ⟨rfl, hb7⟩
    have HP7 := Lib.hid (S0.later hb7)
    have HR7 := Lib.hid (HRe.out.later HRe.out.size hb7)
    have HFI := Lib.hid (OrB.mk' (r := (s, ansE 5)) HR7.out HP7.out.m)
    have HX4 := Lib.hid (fun v0 v1 v2 v3 v4 (e : sK = [kdV v0, kdV v1, kdV v2, kdV v3, kdV v4]) => HP7.out.set4 HR7.out.s (by omega) v0 v1 v2 v3 v4 e)
    have e0 := HR7.out.s.cv 0 (by decide)
    have e1 := HR7.out.s.cv 1 (by decide)
    have e2 := HR7.out.s.cv 2 (by decide)
    have e3 := HR7.out.s.cv 3 (by decide)
    have e4 := HR7.out.s.cv 4 (by decide)
    have g0 := HR7.out.a.cv 0 (by decide)
    have g1 := HR7.out.a.cv 1 (by decide)
    have g2 := HR7.out.a.cv 2 (by decide)
    have g3 := HR7.out.a.cv 3 (by decide)
    have g4 := HR7.out.a.cv 4 (by decide)
    have f4 := HR7.out.s.fz
    have f5 := HR7.out.a.fz
    clear hb7
    try dsimp only
    refine HKc_1.out.out _ _ (fun _ => HP7.out) ?_
    refine tillK_step (i := 2) (by kernel_rfl) rfl (by rfl) ?_
    intro Kc_2 hKc_2
    have HKc_2 := Lib.hid hKc_2
    clear hKc_2
    go_wp2_with fail
    refine HKc_2.out.out _ _ (fun _ => HX4.out _ _ _ _ _ rfl) ?_
    refine tillK_step (i := 3) (by kernel_rfl) rfl (by rfl) ?_
    intro Kc_3 hKc_3
    have HKc_3 := Lib.hid hKc_3
    clear hKc_3
    go_wp2_with fail
    refine HKc_3.out.out _ _ (fun h => by simp at h) ?_
    refine tillK_done (by kernel_rfl) ?_
    clear S0
    go_wp2_with fail
    refine bodyPost_ret (v := .tuple #[shV s A, ansV (ansE 5)]) (by simp [results, Try.results22, go_sem, e0, e1, e2, e3, e4, g0, g1, g2, g3, g4, ansE]) rfl ?_
    rw [HE.out]
    exact HFI.out _ rfl
  have hm0 : mayA s ⟨kd, ⟨ta, ti⟩, key, P, cm⟩ = 0 := by unfold mayA; simp only; rw [if_neg (by omega), hk2]; simp only; rw [if_neg h64]
  have i6 : ¬ (64 : Int) ≤ (s.opn.length : Int) + (s.done.length : Int) := by omega
  obtain ⟨wb, hwb⟩ : ∃ b, decide (kd = 2) = b := ⟨_, rfl⟩
  obtain ⟨ask, hask⟩ : ∃ z, askH s.holds ⟨ta, ti⟩ key wb (firmS s.opn) = z := ⟨_, rfl⟩
  obtain ⟨L2, out, ce⟩ := ask
  have hr3 := HRR.out.symm.trans (asks_ask (L := L2) (out := out) (e := ce) HOV.out hm0 (by simp only; rw [hwb]; exact hask))
  have HE3 := Lib.hid hr3
  have hwb2 : (kd == 2) = wb := by rw [← hwb]; by_cases h : kd = 2 <;> simp [h]
  have HASK := Lib.hid (fun w' (h : Below w2.heap.size w2 w') (b3 : Option Addr) (c3 : Nat) (hF : Txs w' b3 (firmS s.opn)) => rAsk_any s.holds.length A.hc (firmS s.opn).length c3 A.ha b3 s.holds ⟨ta, ti⟩ key wb (firmS s.opn) rfl HP2.out.m.cp.h.1 HP2.out.m.cp.h.2 HZ.out.hlen rfl (by have := firmS_len s.opn; have := HZ.out.olen; omega) w' (HP2.out.m.holds.later h) hF)
  have HOL := Lib.hid (ask_out_ok HZ.out.hold hask).2
  rw [hask] at HASK
  have HWB := Lib.hid hwb2
  clear hwb hwb2 hask hr3 hm0
  go_wp2_with fail
  clear c0 c1 c2 c3 c4 q0 q1 q2 q3 q4 q5 q6 k1 k2 i6
  go_loopw [8, 9] (fun lv iv wr => ∃ (k : Nat) (a' : Option Addr) (c' : Nat), k ≤ s.opn.length ∧ lv = .slice a' (firmS (s.opn.take k)).length c' ∧ iv = .int .i64 k ∧ CqX w2.heap.size wr (.slice a' (firmS (s.opn.take k)).length c') (firmS (s.opn.take k)) ∧ Below w2.heap.size w2 wr) (fun _ iv _ => s.opn.length - (intOf iv).toNat)
  case atStart => exact ⟨0, none, 0, Nat.zero_le _, by simp [firmS], rfl, by simp only [List.take_zero, firmS, List.filter_nil, List.map_nil, List.length_nil]; exact Cq.nil _ _ _, Below.refl _ _⟩
  case round =>
    obtain ⟨k, a', c', hk, rfl, rfl, hQ, hBw⟩ := hrel
    have HQ := Lib.hid hQ
    have HBW := Lib.hid hBw
    have HPk := Lib.hid (HP2.out.later hBw)
    have HRk := Lib.hid (HR2.out.later HR2.out.size hBw)
    clear hQ hBw
    obtain ⟨_, c0, c1, c2, c3, c4⟩ := HPk.out.bs
    obtain ⟨_, q0, q1, q2, q3, q4, q5, q6⟩ := HPk.out.ob
    simp only at q0 q1 q2 q3 q4 q5
    by_cases hlt : k < s.opn.length
    · obtain ⟨y, hy⟩ : ∃ y, A.om[k]? = some y := ⟨_, List.getElem?_eq_getElem (by rw [HPk.out.m.olen]; exact hlt)⟩
      have hx : s.opn[k]? = some y.x := by rw [← HPk.out.m.om, List.getElem?_map, hy]; rfl
      have HAT := Lib.hid (firmS_at hx)
      have hln := firmS_len (s.opn.take k)
      rw [List.length_take] at hln
      obtain ⟨b, off, hoa, _, p0, p1, p2, p3, p4⟩ := Sop.cells HPk.out.m.opn hy
      rw [hoa] at c2
      have i3 : (0 : Int) ≤ (k : Int) := by omega
      have i4 : (k : Int) < (s.opn.length : Int) := by omega
      clear hx hy hoa
      obtain ⟨⟨⟨ya, yi⟩, yf, yw, yp⟩, pa, pc⟩ := y
      simp only at p0 p1 p2 p3 p4 HAT
      cases yf
      case false =>
        have HE := Lib.hid (show firmS (s.opn.take (k + 1)) = firmS (s.opn.take k) from by rw [HAT.out]; simp)
        clear hln
        go_wp2_with fail
        go_roundw
        case rel => exact ⟨k + 1, a', c', by omega, by rw [HE.out], by go_num, by rw [HE.out]; exact HQ.out, HBW.out⟩
        case measure => simp [intOf]; omega
      have HE := Lib.hid (show firmS (s.opn.take (k + 1)) = firmS (s.opn.take k) ++ [⟨ya, yi⟩] from by rw [HAT.out]; rfl)
      obtain ⟨a6, c6, w6, hr6, hc6, hb6⟩ := appX w2.heap.size wr _ _ HQ.out ⟨ya, yi⟩ (by have := HZ.out.olen; omega) HBW.out.size
      have HR6 := Lib.hid hr6
      have HL6 := Lib.hid (show (firmS (s.opn.take (k + 1))).length = (firmS (s.opn.take k)).length + 1 from by rw [HE.out, List.length_append, List.length_singleton])
      have HQ6 := Lib.hid (show CqX w2.heap.size w6 (.slice a6 (firmS (s.opn.take (k + 1))).length c6) (firmS (s.opn.take (k + 1))) from by rw [HL6.out, HE.out]; exact hc6)
      have HB6 := Lib.hid (HBW.out.trans hb6)
      clear hr6 hc6 hb6 hln
      go_wp2_with (at_builtin; refine Lib.wpList_append_run _ rfl _ _ 83 83 rfl _ (.slice (some ⟨wr.heap.size, 0, none⟩) 1 1) rfl rfl _ _ HR6.out ?_)
      go_roundw
      case rel => exact ⟨k + 1, a6, c6, by omega, by rw [HL6.out], by go_num, HQ6.out, HB6.out⟩
      case measure => simp [intOf]; omega
    have i4 : ¬ (k : Int) < (s.opn.length : Int) := by omega
    have ek : s.opn.take k = s.opn := List.take_of_length_le (by omega)
    have hq2 := HQ.out
    rw [ek] at hq2 ⊢
    obtain ⟨_, _, e9, hTx, _⟩ := hq2.form txT
    injection e9 with e9 _ _
    subst e9
    have HTX := Lib.hid hTx
    obtain ⟨w3, hw3⟩ : ∃ x, x = wr := ⟨_, rfl⟩
    rw [← hw3] at HPk HRk HBW HTX c0 c1 c2 c3 c4 q0 q1 q2 q3 q4 q5 q6 ⊢
    have HB3 := Lib.hid (HB2.out.trans (HBW.out.mono HB2.out.size))
    have hwb3 := HWB.out
    clear hw3 ek hq2 hTx HQ
    go_wp2_with fail
    clear c0 c1 c2 c3 c4 q0 q1 q2 q3 q4 q5 q6 hwb3
    refine (HASK.out w3 HBW.out _ _ HTX.out).mono ?_
    rintro e w4 ⟨ah, dh, a7, c7, rfl, hH4, hd4, hm4, hT4, hb4⟩
    simp only at hH4 hd4 hT4
    have HP4 := Lib.hid (HPk.out.later hb4)
    have HR4 := Lib.hid (HRk.out.later HRk.out.size hb4)
    have HB4 := Lib.hid (HB3.out.trans (hb4.mono HB3.out.size))
    by_cases hce : ce = 0
    case neg =>
      have HE := Lib.hid (HE3.out.trans (if_pos hce))
      have g1 : ((ce : Int) == 0) = false := by simp; omega
      have g2 : ((ce : Int) != 0) = true := by simp; omega
      clear hce hH4 hd4 hm4 hT4 hb4
      go_upto_region 21 with (fail)
      refine tillK_begin (S := PB x s A ⟨kd, ⟨ta, ti⟩, key, P, cm⟩ a c u) (k := 4) (by kernel_rfl) ?_
      have S0 : PB x s A ⟨kd, ⟨ta, ti⟩, key, P, cm⟩ a c u w4.drew := HP4.out.later (Below.refl _ _).drew
      have HRe := Lib.hid (HR4.out.later HR4.out.size (Below.refl _ _).drew)
      refine tillK_take (i := 0) (v := .agg #[.slice A.ra s.rows.length A.rc, .slice A.ha s.holds.length A.hc, .slice A.oa s.opn.length A.oc, .slice A.da s.done.length A.dc, .int .u64 (s.ver : Nat)]) rfl (by kernel_rfl) (by kernel_rfl) (by kernel_rfl) (by kernel_rfl) (by kernel_rfl) (by kernel_rfl) (fun _ _ _ h => h) (Or.inl ⟨by rfl, ?hyz_0⟩) (by assumption) ?restz_0
      case hyz_0 =>
        rintro w' ⟨hb, ho, hm⟩
        obtain ⟨_, c0, c1, c2, c3, c4⟩ := hb
        obtain ⟨_, q0, q1, q2, q3, q4, q5, q6⟩ := ho
        simp only at q0 q1 q2 q3 q4 q5
        go_simp
      try simp only [Act.put, List.setIfInBounds_toArray]
      refine tillK_take (i := 1) (v := .int .i64 (ce : Nat)) rfl (by kernel_rfl) (by kernel_rfl) (by kernel_rfl) (by kernel_rfl) (by kernel_rfl) (by kernel_rfl) (fun _ _ _ h => h) (Or.inl ⟨by rfl, ?hyz_1⟩) (by assumption) ?restz_1
      case hyz_1 =>
        rintro w' ⟨hb, ho, hm⟩
        obtain ⟨_, c0, c1, c2, c3, c4⟩ := hb
        obtain ⟨_, q0, q1, q2, q3, q4, q5, q6⟩ := ho
        simp only at q0 q1 q2 q3 q4 q5
        go_simp
      try simp only [Act.put]
      refine tillK_step (i := 2) (by kernel_rfl) rfl (by rfl) ?_
      intro Kz_2 hKz_2
      have HKz_2 := Lib.hid hKz_2
      clear hKz_2
      go_wp2_with fail
      refine (rNo_any ce _).mono ?_
      rintro e w7 ⟨rfl, hb7⟩
      have HP7 := Lib.hid (S0.later hb7)
      have HR7 := Lib.hid (HRe.out.later HRe.out.size hb7)
      have HFI := Lib.hid (OrB.mk' (r := (s, ansE ce)) HR7.out HP7.out.m)
      have HX4 := Lib.hid (fun v0 v1 v2 v3 v4 (e : sK = [kdV v0, kdV v1, kdV v2, kdV v3, kdV v4]) => HP7.out.set4 HR7.out.s (by omega) v0 v1 v2 v3 v4 e)
      have e0 := HR7.out.s.cv 0 (by decide)
      have e1 := HR7.out.s.cv 1 (by decide)
      have e2 := HR7.out.s.cv 2 (by decide)
      have e3 := HR7.out.s.cv 3 (by decide)
      have e4 := HR7.out.s.cv 4 (by decide)
      have g0 := HR7.out.a.cv 0 (by decide)
      have g1 := HR7.out.a.cv 1 (by decide)
      have g2 := HR7.out.a.cv 2 (by decide)
      have g3 := HR7.out.a.cv 3 (by decide)
      have g4 := HR7.out.a.cv 4 (by decide)
      have f4 := HR7.out.s.fz
      have f5 := HR7.out.a.fz
      clear hb7
      try dsimp only
      refine HKz_2.out.out _ _ (fun _ => HP7.out) ?_
      refine tillK_step (i := 3) (by kernel_rfl) rfl (by rfl) ?_
      intro Kz_3 hKz_3
      have HKz_3 := Lib.hid hKz_3
      clear hKz_3
      go_wp2_with fail
      refine HKz_3.out.out _ _ (fun _ => HX4.out _ _ _ _ _ rfl) ?_
      refine tillK_step (i := 4) (by kernel_rfl) rfl (by rfl) ?_
      intro Kz_4 hKz_4
      have HKz_4 := Lib.hid hKz_4
      clear hKz_4
      go_wp2_with fail
      refine HKz_4.out.out _ _ (fun h => by simp at h) ?_
      refine tillK_done (by kernel_rfl) ?_
      clear S0
      go_wp2_with fail
      refine bodyPost_ret (v := .tuple #[shV s A, ansV (ansE ce)]) (by simp [results, Try.results22, go_sem, e0, e1, e2, e3, e4, g0, g1, g2, g3, g4, ansE]) rfl ?_
      rw [HE.out]
      exact HFI.out _ rfl
    subst hce
    have HEt := Lib.hid (HE3.out.trans (if_neg (by simp)))
    have hz4 : x + 1 + 1 + 1 + 1 ≤ w4.heap.size := by have := HB4.out.size; have := HSZ.out; omega
    have hx4 := HBX.out
    obtain ⟨k8, e0, e1, e2, e3, e4⟩ := HP4.out.bs
    obtain ⟨w5, hw5⟩ : ∃ V, w4.setCell ⟨x, 1, none⟩ (.slice ah L2.length dh) = V := ⟨_, rfl⟩
    have hg5 : w4.grownBy w5 (some x) := hw5 ▸ sc_one _ _ _ _
    have hm5 : ShM w4 ⟨s.rows, L2, s.opn, s.done, s.ver⟩ ⟨A.ra, A.rc, ah, dh, A.oa, A.oc, A.om, A.da, A.dc⟩ := by
      have hm := HP4.out.m
      exact ⟨hm.rows, hH4, hm.om, hm.opn, hm.puts, hm.done, ⟨hm.cp.r, ⟨hd4, hm4⟩, hm.cp.o, hm.cp.d, hm.cp.p⟩⟩
    have hbs5 : BS w5 x ⟨s.rows, L2, s.opn, s.done, s.ver⟩ ⟨A.ra, A.rc, ah, dh, A.oa, A.oc, A.om, A.da, A.dc⟩ := by
      rw [← hw5]
      exact ⟨k8.set (i := 1) (v := .slice ah L2.length dh) rfl, by simp [go_sem, e0], by simp [go_sem, e1], by simp [go_sem, e2], by simp [go_sem, e3], by simp [go_sem, e4]⟩
    have HP5 := Lib.hid (show PB x ⟨s.rows, L2, s.opn, s.done, s.ver⟩ ⟨A.ra, A.rc, ah, dh, A.oa, A.oc, A.om, A.da, A.dc⟩ ⟨kd, ⟨ta, ti⟩, key, P, cm⟩ a c u w5 from ⟨hbs5, HP4.out.ob.grown hg5 (by omega), hw5 ▸ hm5.set k8 fits_s 1 _⟩)
    have HR5 := Lib.hid (HR4.out.grown hg5 hx4 (by omega) (by omega))
    have HT5 := Lib.hid (show Txs w5 a7 out from rw_grown hT4 hg5 (Rw.notin hT4 k8 noFit_tx))
    have HZ5 := Lib.hid (show x + 1 + 1 + 1 + 1 ≤ w5.heap.size from by have := hg5.size; omega)
    have HW5 := Lib.hid hw5
    have f8 := k8.fz
    have hol2 : out.length ≤ 140737488351232 := by
      have := HOL.out
      have := HZ.out.hlen
      omega
    clear hH4 hd4 hm4 hT4 hb4 hz4 hx4 k8 e0 e2 e3 e4 hw5 hg5 hm5 hbs5
    go_wp2_with fail
    rw [HW5.out]
    clear e1 f8
    obtain ⟨_, c0, c1, c2, c3, c4⟩ := HP5.out.bs
    obtain ⟨_, q0, q1, q2, q3, q4, q5, q6⟩ := HP5.out.ob
    simp only at q0 q1 q2 q3 q4 q5
    go_wp2_with fail
    clear c0 c1 c2 c3 c4 q0 q1 q2 q3 q4 q5 q6
    go_loopw [13, 14] (fun lv iv wr => ∃ (k : Nat) (a' : Option Addr) (c' : Nat), k ≤ s.opn.length ∧ lv = .slice a' (wnM out (A.om.take k)).length c' ∧ iv = .int .i64 k ∧ Cq 48 5 sopC w5.heap.size wr (.slice a' (wnM out (A.om.take k)).length c') (wnM out (A.om.take k)) ∧ Below w5.heap.size w5 wr) (fun _ iv _ => s.opn.length - (intOf iv).toNat)
    case atStart => exact ⟨0, none, 0, Nat.zero_le _, by simp [wnM], rfl, by simp only [List.take_zero, wnM, List.map_nil, List.length_nil]; exact Cq.nil _ _ _, Below.refl _ _⟩
    case round =>
      obtain ⟨k, a', c', hk, rfl, rfl, hQ, hBw⟩ := hrel
      have HQ := Lib.hid hQ
      have HBW := Lib.hid hBw
      have HPj := Lib.hid (HP5.out.later hBw)
      have HRj := Lib.hid (HR5.out.later HR5.out.size hBw)
      clear hQ hBw
      obtain ⟨_, c0, c1, c2, c3, c4⟩ := HPj.out.bs
      obtain ⟨_, q0, q1, q2, q3, q4, q5, q6⟩ := HPj.out.ob
      simp only at q0 q1 q2 q3 q4 q5
      by_cases hlt : k < s.opn.length
      · obtain ⟨y, hy⟩ : ∃ y, A.om[k]? = some y := ⟨_, List.getElem?_eq_getElem (by have := HPj.out.m.olen; simp only at this; omega)⟩
        have HAT := Lib.hid (show wnM out (A.om.take (k + 1)) = wnM out (A.om.take k) ++ [wn1 out y] from by rw [takeP_snoc hy]; simp [wnM])
        have hln : (wnM out (A.om.take k)).length ≤ k := by simp only [wnM, List.length_map, List.length_take]; omega
        obtain ⟨b, off, hoa, _, p0, p1, p2, p3, p4⟩ := Sop.cells HPj.out.m.opn hy
        simp only at hoa
        rw [hoa] at c2
        have i3 : (0 : Int) ≤ (k : Int) := by omega
        have i4 : (k : Int) < (s.opn.length : Int) := by omega
        clear hy hoa
        obtain ⟨⟨⟨ya, yi⟩, yf, yw, yp⟩, pa, pc⟩ := y
        simp only at p0 p1 p2 p3 p4
        obtain ⟨W1, hW1⟩ : ∃ V, wr.alloc (.cells #[.int .u64 (ya : Nat), .int .u64 (yi : Nat), .bool yf, .bool yw, .slice pa yp.length pc] 48) = V := ⟨_, rfl⟩
        obtain ⟨z5, hz5⟩ : ∃ z, wr.heap.size = z := ⟨_, rfl⟩
        have BV : Below wr.heap.size wr W1 := hW1 ▸ (Below.refl _ _).alloc (Nat.le_refl _) _
        have hkb : KB W1 z5 [5 - 3, 5 - 3, 5, 5, 1] := hW1 ▸ KB.new5 hz5.symm _ _ _ _ _ _
        have hbx : W1.cell? ⟨z5, 0, none⟩ = some (.int .u64 (ya : Nat)) ∧ W1.cell? ⟨z5, 1, none⟩ = some (.int .u64 (yi : Nat)) ∧ W1.cell? ⟨z5, 2, none⟩ = some (.bool yf) ∧ W1.cell? ⟨z5, 3, none⟩ = some (.bool yw) ∧ W1.cell? ⟨z5, 4, none⟩ = some (.slice pa yp.length pc) := by
          rw [← hW1, ← hz5]; exact ⟨by simp [go_sem], by simp [go_sem], by simp [go_sem], by simp [go_sem], by simp [go_sem]⟩
        obtain ⟨v0, v1, v2, v3, v4⟩ := hbx
        have HBX5 := Lib.hid (And.intro v0 (And.intro v1 (And.intro v2 (And.intro v3 v4))))
        have hbr : Below w5.heap.size w5 W1 := HBW.out.trans (BV.mono HBW.out.size)
        have HAM := Lib.hid (rAmong_any out.length c7 a7 out ⟨ya, yi⟩ rfl hol2 W1 (HT5.out.later hbr))
        obtain ⟨gb, hgb⟩ : ∃ z, amT ⟨ya, yi⟩ out = z := ⟨_, rfl⟩
        rw [hgb] at HAM
        have HGB := Lib.hid hgb
        have HKB := Lib.hid hkb
        have HBV := Lib.hid BV
        have HZ5' := Lib.hid hz5
        have HW1 := Lib.hid hW1
        clear hgb hkb BV hbr hz5 hW1
        go_wp2_with fail
        rw [HW1.out, HZ5'.out]
        go_wp2_with fail
        refine HAM.out.mono ?_
        rintro e w6 ⟨rfl, hb6⟩
        clear p0 p1 p2 p3 p4 c0 c1 c2 c3 c4 q0 q1 q2 q3 q4 q5 q6 v0 v1 v2 v3 v4
        have f : ∀ i v, W1.cell? ⟨z5, i, none⟩ = some v → w6.cell? ⟨z5, i, none⟩ = some v := fun i v e => (hb6.cell (p := ⟨z5, i, none⟩) HKB.out.lt).trans e
        have v0 := f _ _ HBX5.out.1
        have v1 := f _ _ HBX5.out.2.1
        have v2 := f _ _ HBX5.out.2.2.1
        have v3 := f _ _ HBX5.out.2.2.2.1
        have v4 := f _ _ HBX5.out.2.2.2.2
        have fz := (HKB.out.later hb6).fz
        have hb16 : Below wr.heap.size wr w6 := HBV.out.trans (hb6.mono HBV.out.size)
        have HB16 := Lib.hid hb16
        clear f hb6 hb16
        obtain ⟨nb, hnb⟩ : ∃ z, (yw || gb) = z := ⟨_, rfl⟩
        obtain ⟨w7, hw7⟩ : ∃ V, w6.setCell ⟨z5, 3, none⟩ (.bool nb) = V := ⟨_, rfl⟩
        have hb7 : Below wr.heap.size wr w7 := hw7 ▸ HB16.out.setCell (by have := HZ5'.out; simp only; omega) _
        have B8 : Below w7.heap.size w7 (w7.alloc (.cells #[.int .u64 (ya : Nat), .int .u64 (yi : Nat), .bool yf, .bool nb, .slice pa yp.length pc] 48)) := (Below.refl _ _).alloc (Nat.le_refl _) _
        obtain ⟨v8, w8, hr8, hc8, hb8⟩ := app_rw sopT w5.heap.size _ 24 _ _ ((HQ.out.later hb7).later B8) (some ⟨w7.heap.size, 0, none⟩) 1 1 [(⟨⟨⟨ya, yi⟩, yf, nb, yp⟩, pa, pc⟩ : SopM)] rfl (rw_one (f := sopC) w7 rfl (⟨⟨⟨ya, yi⟩, yf, nb, yp⟩, pa, pc⟩ : SopM) rfl 48) (by have := HZ.out.olen; omega) (by have := HBW.out.size; have := hb7.size; have := B8.size; omega)
        obtain ⟨a6, c6, e6, _⟩ := hc8.form sopT
        subst e6
        have HE := Lib.hid (show wnM out (A.om.take (k + 1)) = wnM out (A.om.take k) ++ [⟨⟨⟨ya, yi⟩, yf, nb, yp⟩, pa, pc⟩] from by rw [HAT.out]; simp only [wn1, HGB.out, hnb])
        have HR8 := Lib.hid hr8
        have HQ8 := Lib.hid (show Cq 48 5 sopC w5.heap.size w8 (.slice a6 (wnM out (A.om.take (k + 1))).length c6) (wnM out (A.om.take (k + 1))) from by rw [HE.out]; exact hc8)
        have HB8 := Lib.hid (HBW.out.trans (((hb7.trans (B8.mono hb7.size)).mono HBW.out.size).trans hb8))
        have y0 : w7.cell? ⟨z5, 0, none⟩ = some (.int .u64 (ya : Nat)) := by rw [← hw7]; simp [go_sem, v0]
        have y1 : w7.cell? ⟨z5, 1, none⟩ = some (.int .u64 (yi : Nat)) := by rw [← hw7]; simp [go_sem, v1]
        have y2 : w7.cell? ⟨z5, 2, none⟩ = some (.bool yf) := by rw [← hw7]; simp [go_sem, v2]
        have y3 : w7.cell? ⟨z5, 3, none⟩ = some (.bool nb) := by rw [← hw7]; simp [go_sem, v3]
        have y4 : w7.cell? ⟨z5, 4, none⟩ = some (.slice pa yp.length pc) := by rw [← hw7]; simp [go_sem, v4]
        have HY := Lib.hid (And.intro y0 (And.intro y1 (And.intro y2 (And.intro y3 y4))))
        have HW7 := Lib.hid hw7
        clear hr8 hc8 hb8 B8 hb7 hw7 y0 y1 y2 y3 y4 hln
        go_upto_region 29 with (fail)
        go_cut [151] (fun _ wx => wx = w7)
        case first =>
          cases yw
          case false =>
            obtain rfl : gb = nb := by simpa using hnb
            clear hnb
            go_wp2_with fail
            go_meet
            exact HW7.out
          case true =>
            obtain rfl : nb = true := by rw [← hnb]; rfl
            clear hnb
            go_wp2_with fail
            go_meet
            exact HW7.out
        case rest =>
        have hwx := hcut.symm
        subst hwx
        clear v0 v1 v2 v3 v4 fz hnb
        obtain ⟨y0, y1, y2, y3, y4⟩ := HY.out
        go_wp2_with (at_builtin; refine Lib.wpList_append_run _ rfl _ _ 24 24 rfl _ (.slice (some ⟨w7.heap.size, 0, none⟩) 1 1) rfl rfl _ _ HR8.out ?_)
        go_roundw
        case rel => exact ⟨k + 1, a6, c6, by omega, by rw [HE.out]; first | rfl | simp, by go_num, HQ8.out, HB8.out⟩
        case measure => simp [intOf]; omega
      have i4 : ¬ (k : Int) < (s.opn.length : Int) := by omega
      have ek : A.om.take k = A.om := List.take_of_length_le (by have := HPj.out.m.olen; simp only at this; omega)
      have hq2 := HQ.out
      obtain ⟨M2, hM2⟩ : ∃ M, wnM out A.om = M := ⟨_, rfl⟩
      rw [ek, hM2] at hq2 ⊢
      have hMx : M2.map (fun y => y.x) = wndS out s.opn := by rw [← hM2, wnM_x]; exact congrArg _ HPj.out.m.om
      have hMl : M2.length = s.opn.length := by rw [← hM2]; simp only [wnM, List.length_map]; exact HPj.out.m.olen
      have hMm : ∀ y ∈ M2, ∃ y0 ∈ A.om, y.a = y0.a ∧ y.c = y0.c ∧ y.x.puts = y0.x.puts := by
        rw [← hM2]; intro y hy
        obtain ⟨y0, h0, rfl⟩ := List.mem_map.1 hy
        exact ⟨y0, h0, rfl, rfl, rfl⟩
      have hsz5 := HBW.out.size
      have B8 : Below wr.heap.size wr (wr.alloc (.cells #[.int .u64 (ta : Nat), .int .u64 (ti : Nat), .bool false, .bool false, .slice none 0 0] 48)) := (Below.refl _ _).alloc (Nat.le_refl _) _
      obtain ⟨v8, w8, hr8, hc8, hb8'⟩ := app_rw sopT w5.heap.size _ 24 _ _ (hq2.later B8) (some ⟨wr.heap.size, 0, none⟩) 1 1 [(⟨⟨⟨ta, ti⟩, false, false, []⟩, none, 0⟩ : SopM)] rfl (rw_one (f := sopC) wr rfl (⟨⟨⟨ta, ti⟩, false, false, []⟩, none, 0⟩ : SopM) rfl 48) (by have := HZ.out.olen; omega) (Nat.le_trans hsz5 B8.size)
      obtain ⟨a8, c8, e8, hRw, _, hcl, hcm⟩ := hc8.form sopT
      rw [List.length_append, List.length_singleton, hMl] at e8 hcl
      subst e8
      have HR8 := Lib.hid hr8
      have hb8 : Below w5.heap.size w5 w8 := HBW.out.trans ((B8.mono hsz5).trans hb8')
      obtain ⟨M3, hM3⟩ : ∃ M, M2 ++ [(⟨⟨⟨ta, ti⟩, false, false, []⟩, none, 0⟩ : SopM)] = M := ⟨_, rfl⟩
      have hM3x : M3.map (fun y => y.x) = wndS out s.opn ++ [⟨⟨ta, ti⟩, false, false, []⟩] := by rw [← hM3, List.map_append, hMx]; rfl
      have hM3l : M3.length = s.opn.length + 1 := by rw [← hM3, List.length_append, hMl]; rfl
      have hM3m : ∀ y ∈ M3, (∃ y0 ∈ A.om, y.a = y0.a ∧ y.c = y0.c ∧ y.x.puts = y0.x.puts) ∨ y = (⟨⟨⟨ta, ti⟩, false, false, []⟩, none, 0⟩ : SopM) := by
        rw [← hM3]; intro y hy
        rcases List.mem_append.1 hy with h | h
        · exact .inl (hMm y h)
        · exact .inr (by simpa using h)
      rw [hM3] at hRw
      have HEr := Lib.hid (show r = (⟨s.rows, L2, wndS out s.opn ++ [⟨⟨ta, ti⟩, false, false, []⟩], s.done, s.ver⟩, gAns s.rows key s.ver) from by rw [HEt.out]; (try simp only); rw [hk2]; rfl)
      obtain ⟨nn, hnn⟩ : ∃ n, s.opn.length + 1 = n := ⟨_, rfl⟩
      have HNN := Lib.hid hnn
      obtain ⟨EX, hEX⟩ : ∃ E : List Sop, [⟨⟨ta, ti⟩, false, false, []⟩] = E := ⟨_, rfl⟩
      rw [hEX] at hM3x HEr
      rw [hnn] at hM3l
      have hcl' : nn ≤ c8 := by omega
      clear B8 hr8 hc8 hb8' hM3 hEX
      have hP8 := HP5.out.later hb8
      have hx8 := HBX.out
      have hz8 : x + 1 + 1 + 1 + 1 ≤ w8.heap.size := by have := HZ5.out; have := hb8.size; omega
      have hlM : (wndS out s.opn ++ EX).length = nn := by rw [← hM3x, List.length_map]; exact hM3l
      obtain ⟨k8, e0, e1, e2, e3, e4⟩ := hP8.bs
      obtain ⟨w9, hw9⟩ : ∃ V, w8.setCell ⟨x, 2, none⟩ (.slice a8 nn c8) = V := ⟨_, rfl⟩
      have hg9 : w8.grownBy w9 (some x) := hw9 ▸ sc_one _ _ _ _
      have hm9 : ShM w8 ⟨s.rows, L2, wndS out s.opn ++ EX, s.done, s.ver⟩ ⟨A.ra, A.rc, ah, dh, a8, c8, M3, A.da, A.dc⟩ := by
        have hm := hP8.m
        refine ⟨hm.rows, hm.holds, hM3x, hRw, fun y hy => ?_, hm.done, ⟨hm.cp.r, hm.cp.h, ⟨by simp only [hlM]; exact hcl', hcm⟩, hm.cp.d, fun y hy => ?_⟩⟩
        · rcases hM3m y hy with ⟨y0, h0, h1, h2, h3⟩ | rfl
          · rw [h1, h3]; exact hm.puts y0 h0
          · exact Rw.nil _
        · rcases hM3m y hy with ⟨y0, h0, h1, h2, h3⟩ | rfl
          · rw [h2, h3]; exact hm.cp.p y0 h0
          · exact ⟨Nat.le_refl _, Nat.zero_le _⟩
      have hbs9 : BS w9 x ⟨s.rows, L2, wndS out s.opn ++ EX, s.done, s.ver⟩ ⟨A.ra, A.rc, ah, dh, a8, c8, M3, A.da, A.dc⟩ := by
        rw [← hw9]
        exact ⟨k8.set (i := 2) (v := .slice a8 nn c8) rfl, by simp [go_sem, e0], by simp [go_sem, e1], by simp only [hlM]; simp [go_sem, e2], by simp [go_sem, e3], by simp [go_sem, e4]⟩
      have hP9 : PB x ⟨s.rows, L2, wndS out s.opn ++ EX, s.done, s.ver⟩ ⟨A.ra, A.rc, ah, dh, a8, c8, M3, A.da, A.dc⟩ ⟨kd, ⟨ta, ti⟩, key, P, cm⟩ a c u w9 := ⟨hbs9, hP8.ob.grown hg9 (by omega), hw9 ▸ hm9.set k8 fits_s 2 _⟩
      have HR9 := Lib.hid ((HR5.out.later HR5.out.size hb8).grown hg9 hx8 (by omega) (by omega))
      obtain ⟨s6, hs6⟩ : ∃ z : Sh, (⟨s.rows, L2, wndS out s.opn ++ EX, s.done, s.ver⟩ : Sh) = z := ⟨_, rfl⟩
      obtain ⟨A6, hA6⟩ : ∃ z : Sad, (⟨A.ra, A.rc, ah, dh, a8, c8, M3, A.da, A.dc⟩ : Sad) = z := ⟨_, rfl⟩
      have HS6 := Lib.hid (show s6.rows = s.rows ∧ s6.ver = s.ver from by rw [← hs6]; exact ⟨rfl, rfl⟩)
      have HA6 := Lib.hid (show A6.ra = A.ra ∧ A6.rc = A.rc from by rw [← hA6]; exact ⟨rfl, rfl⟩)
      rw [hs6, hA6] at hP9
      rw [hs6] at HEr
      have HP9 := Lib.hid hP9
      have HZ9 := Lib.hid (show x + 1 + 1 + 1 + 1 ≤ w9.heap.size from by have := hg9.size; omega)
      have HW9 := Lib.hid hw9
      have HE2 := Lib.hid (And.intro e2 k8.fz)
      clear ek hq2 hM2 hMx hMl hMm hsz5 hRw hcl hcm hM3x hM3m hP8 hx8 hz8 hlM k8 e0 e1 e2 e3 e4 hw9 hg9 hm9 hbs9 hP9 hs6 hA6 hb8 HQ hcl'
      go_upto_region 33 with (at_builtin; refine Lib.wpList_append_run _ rfl _ _ 24 24 rfl _ (.slice (some ⟨wr.heap.size, 0, none⟩) 1 1) rfl rfl _ _ HR8.out ?_)
      try rw [hnn]
      clear hM3l c0 c1 c2 c3 c4 q0 q1 q2 q3 q4 q5 q6 hnn
      obtain ⟨e2, f8⟩ := HE2.out
      go_upto_region 34 with (fail)
      rw [HW9.out]
      clear e2 f8
      obtain ⟨_, c0, c1, c2, c3, c4⟩ := HP9.out.bs
      obtain ⟨_, q0, q1, q2, q3, q4, q5, q6⟩ := HP9.out.ob
      simp only at q0 q1 q2 q3 q4 q5
      go_wp2_with fail
      clear c0 c1 c2 c3 c4 q0 q1 q2 q3 q4 q5 q6
      refine (rGet_any key s6.rows.length A6.rc A6.ra s6.rows rfl (by rw [HS6.out.1]; have := HZ.out.rlen; omega) w9 HP9.out.m.rows).mono ?_
      rintro e w10 ⟨rfl, hb10⟩
      have HP10 := Lib.hid (HP9.out.later hb10)
      have HR10 := Lib.hid (HR9.out.later HR9.out.size hb10)
      have HZ10 := Lib.hid (Nat.le_trans HZ9.out hb10.size)
      clear hb10
      have hga := gAns_eq s.rows key s.ver
      rw [HS6.out.1]
      obtain ⟨zr, hzr⟩ : ∃ z, (getR key s.rows).getD z0 = z := ⟨_, rfl⟩
      obtain ⟨fd, hfd⟩ : ∃ z, (getR key s.rows).isSome = z := ⟨_, rfl⟩
      rw [hzr, hfd] at hga ⊢
      obtain ⟨zk, zv, zn⟩ := zr
      simp only at hga
      have HGA := Lib.hid hga
      obtain ⟨W11, hW11⟩ : ∃ V, w10.alloc (.cells #[.string zk, .string zv, .int .u64 (zn : Nat)] 50) = V := ⟨_, rfl⟩
      obtain ⟨x17, hx17⟩ : ∃ z, w10.heap.size = z := ⟨_, rfl⟩
      have hB11 : Below w10.heap.size w10 W11 := hW11 ▸ (Below.refl _ _).alloc (Nat.le_refl _) _
      have hbx : W11.cell? ⟨x17, 1, none⟩ = some (.string zv) ∧ W11.cell? ⟨x17, 2, none⟩ = some (.int .u64 (zn : Nat)) ∧ x17 < W11.heap.size ∧ ∀ j, W11.frozen? ⟨x17, j, none⟩ = false := by
        rw [← hW11, ← hx17]; exact ⟨by simp [go_sem], by simp [go_sem], by simp, fun j => by simp [go_sem]⟩
      have HP11 := Lib.hid (HP10.out.later hB11)
      have HR11 := Lib.hid (HR10.out.later HR10.out.size hB11)
      have HX17 := Lib.hid (show x + 1 + 1 + 1 + 1 ≤ x17 from by have := HZ10.out; omega)
      have HBX17 := Lib.hid hbx
      have HW11 := Lib.hid hW11
      have HXX := Lib.hid hx17
      clear hga hzr hfd hB11 hbx hW11 hx17
      simp only
      cases fd
      case false =>
        have HE := Lib.hid (show r = (s6, ⟨0, zv, s6.ver, false, false⟩) from by rw [HEr.out, HGA.out, HS6.out.2]; rfl)
        obtain ⟨_, c0, c1, c2, c3, c4⟩ := HP11.out.bs
        obtain ⟨_, q0, q1, q2, q3, q4, q5, q6⟩ := HP11.out.ob
        simp only at q0 q1 q2 q3 q4 q5
        obtain ⟨b1, b2, _, fz⟩ := HBX17.out
        go_upto_region 35 with (fail)
        rw [HW11.out, HXX.out]
        obtain ⟨w12, hw12⟩ : ∃ V, W11.setCell ⟨x17, 2, none⟩ (.int .u64 (s6.ver : Nat)) = V := ⟨_, rfl⟩
        have hg12 : W11.grownBy w12 (some x17) := hw12 ▸ sc_one _ _ _ _
        have hb12 : Below w10.heap.size W11 w12 := by
          have h1 : Below x17 W11 w12 := hw12 ▸ (Below.refl x17 W11).setCell (by simp) _
          rw [HXX.out]; exact h1
        have HP12 := Lib.hid (HP10.out.later (((by rw [← HW11.out]; exact (Below.refl _ _).alloc (Nat.le_refl _) _) : Below w10.heap.size w10 W11).trans hb12))
        have HR12 := Lib.hid (HR10.out.later HR10.out.size (((by rw [← HW11.out]; exact (Below.refl _ _).alloc (Nat.le_refl _) _) : Below w10.heap.size w10 W11).trans hb12))
        have HV := Lib.hid (show w12.cell? ⟨x17, 1, none⟩ = some (.string zv) ∧ w12.cell? ⟨x17, 2, none⟩ = some (.int .u64 (s6.ver : Nat)) from by rw [← hw12]; exact ⟨by simp [go_sem, b1], by simp [go_sem, b2]⟩)
        have HL12 := Lib.hid (show x17 < w12.heap.size from by have h3 := HBX17.out.2.2.1; have := hg12.size; omega)
        have HW12 := Lib.hid hw12
        clear hg12 hb12 hw12
        go_upto_region 37 with (fail)
        rw [HW12.out]
        clear c0 c1 c2 c3 c4 q0 q1 q2 q3 q4 q5 q6 b1 b2 fz
        refine tillK_begin (S := fun w' => PB x s6 A6 ⟨kd, ⟨ta, ti⟩, key, P, cm⟩ a c u w' ∧ (w'.cell? ⟨x17, 1, none⟩ = some (.string zv) ∧ w'.cell? ⟨x17, 2, none⟩ = some (.int .u64 (s6.ver : Nat)))) (k := 8) (by kernel_rfl) ?_
        have S0 : PB x s6 A6 ⟨kd, ⟨ta, ti⟩, key, P, cm⟩ a c u w12.drew ∧ (w12.drew.cell? ⟨x17, 1, none⟩ = some (.string zv) ∧ w12.drew.cell? ⟨x17, 2, none⟩ = some (.int .u64 (s6.ver : Nat))) := ⟨HP12.out.later (Below.refl _ _).drew, HV.out⟩
        have HFI := Lib.hid (OrB.mk' (r := (s6, ⟨0, zv, s6.ver, false, false⟩)) HR12.out HP12.out.m)
        have HX4 := Lib.hid (fun v0 v1 v2 v3 v4 (e : sK = [kdV v0, kdV v1, kdV v2, kdV v3, kdV v4]) => (show PB x s6 A6 ⟨kd, ⟨ta, ti⟩, key, P, cm⟩ a c u (set5s w12 (x + 1 + 1) v0 v1 v2 v3 v4).drew ∧ ((set5s w12 (x + 1 + 1) v0 v1 v2 v3 v4).drew.cell? ⟨x17, 1, none⟩ = some (.string zv) ∧ (set5s w12 (x + 1 + 1) v0 v1 v2 v3 v4).drew.cell? ⟨x17, 2, none⟩ = some (.int .u64 (s6.ver : Nat))) from ⟨(HP12.out.set4 HR12.out.s (by omega) v0 v1 v2 v3 v4 e).later (Below.refl _ _).drew, cell_far5 HV.out.1 (by have := HX17.out; omega), cell_far5 HV.out.2 (by have := HX17.out; omega)⟩))
        refine tillK_take (i := 0) (v := .agg #[.slice A6.ra s6.rows.length A6.rc, .slice A6.ha s6.holds.length A6.hc, .slice A6.oa s6.opn.length A6.oc, .slice A6.da s6.done.length A6.dc, .int .u64 (s6.ver : Nat)]) rfl (by kernel_rfl) (by kernel_rfl) (by kernel_rfl) (by kernel_rfl) (by kernel_rfl) (by kernel_rfl) (fun _ _ _ h => h) (Or.inl ⟨by rfl, ?hyv_0⟩) (by assumption) ?restv_0
        case hyv_0 =>
          rintro w' ⟨⟨hb, ho, hm'⟩, hbx⟩
          obtain ⟨_, c0, c1, c2, c3, c4⟩ := hb
          obtain ⟨_, q0, q1, q2, q3, q4, q5, q6⟩ := ho
          simp only at q0 q1 q2 q3 q4 q5
          obtain ⟨b1, b2⟩ := hbx
          go_simp
        try simp only [Act.put, List.setIfInBounds_toArray]
        refine tillK_take (i := 1) (v := .pointer (some ⟨x17, 1, none⟩)) rfl (by kernel_rfl) (by kernel_rfl) (by kernel_rfl) (by kernel_rfl) (by kernel_rfl) (by kernel_rfl) (fun _ _ _ h => h) (Or.inl ⟨by rfl, ?hyv_1⟩) (by assumption) ?restv_1
        case hyv_1 =>
          rintro w' ⟨⟨hb, ho, hm'⟩, hbx⟩
          obtain ⟨_, c0, c1, c2, c3, c4⟩ := hb
          obtain ⟨_, q0, q1, q2, q3, q4, q5, q6⟩ := ho
          simp only at q0 q1 q2 q3 q4 q5
          obtain ⟨b1, b2⟩ := hbx
          go_simp
        try simp only [Act.put]
        refine tillK_take (i := 2) (v := .string zv) rfl (by kernel_rfl) (by kernel_rfl) (by kernel_rfl) (by kernel_rfl) (by kernel_rfl) (by kernel_rfl) (fun _ _ _ h => h) (Or.inl ⟨by rfl, ?hyv_2⟩) (by assumption) ?restv_2
        case hyv_2 =>
          rintro w' ⟨⟨hb, ho, hm'⟩, hbx⟩
          obtain ⟨_, c0, c1, c2, c3, c4⟩ := hb
          obtain ⟨_, q0, q1, q2, q3, q4, q5, q6⟩ := ho
          simp only at q0 q1 q2 q3 q4 q5
          obtain ⟨b1, b2⟩ := hbx
          go_simp
        try simp only [Act.put]
        refine tillK_take (i := 3) (v := .pointer (some ⟨x17, 2, none⟩)) rfl (by kernel_rfl) (by kernel_rfl) (by kernel_rfl) (by kernel_rfl) (by kernel_rfl) (by kernel_rfl) (fun _ _ _ h => h) (Or.inl ⟨by rfl, ?hyv_3⟩) (by assumption) ?restv_3
        case hyv_3 =>
          rintro w' ⟨⟨hb, ho, hm'⟩, hbx⟩
          obtain ⟨_, c0, c1, c2, c3, c4⟩ := hb
          obtain ⟨_, q0, q1, q2, q3, q4, q5, q6⟩ := ho
          simp only at q0 q1 q2 q3 q4 q5
          obtain ⟨b1, b2⟩ := hbx
          go_simp
        try simp only [Act.put]
        refine tillK_take (i := 4) (v := .int .u64 (s6.ver : Nat)) rfl (by kernel_rfl) (by kernel_rfl) (by kernel_rfl) (by kernel_rfl) (by kernel_rfl) (by kernel_rfl) (fun _ _ _ h => h) (Or.inl ⟨by rfl, ?hyv_4⟩) (by assumption) ?restv_4
        case hyv_4 =>
          rintro w' ⟨⟨hb, ho, hm'⟩, hbx⟩
          obtain ⟨_, c0, c1, c2, c3, c4⟩ := hb
          obtain ⟨_, q0, q1, q2, q3, q4, q5, q6⟩ := ho
          simp only at q0 q1 q2 q3 q4 q5
          obtain ⟨b1, b2⟩ := hbx
          go_simp
        try simp only [Act.put]
        refine tillK_take (i := 5) (v := .bool false) rfl (by kernel_rfl) (by kernel_rfl) (by kernel_rfl) (by kernel_rfl) (by kernel_rfl) (by kernel_rfl) (fun _ _ _ h => h) (Or.inl ⟨by rfl, ?hyv_5⟩) (by assumption) ?restv_5
        case hyv_5 =>
          rintro w' ⟨⟨hb, ho, hm'⟩, hbx⟩
          obtain ⟨_, c0, c1, c2, c3, c4⟩ := hb
          obtain ⟨_, q0, q1, q2, q3, q4, q5, q6⟩ := ho
          simp only at q0 q1 q2 q3 q4 q5
          obtain ⟨b1, b2⟩ := hbx
          go_simp
        try simp only [Act.put]
        refine tillK_take (i := 6) (v := .agg #[.int .i64 0, .string zv, .int .u64 (s6.ver : Nat), .bool false, .bool false]) rfl (by kernel_rfl) (by kernel_rfl) (by kernel_rfl) (by kernel_rfl) (by kernel_rfl) (by kernel_rfl) (fun _ _ _ h => h) (Or.inl ⟨by rfl, ?hyv_6⟩) (by assumption) ?restv_6
        case hyv_6 =>
          rintro w' ⟨⟨hb, ho, hm'⟩, hbx⟩
          obtain ⟨_, c0, c1, c2, c3, c4⟩ := hb
          obtain ⟨_, q0, q1, q2, q3, q4, q5, q6⟩ := ho
          simp only at q0 q1 q2 q3 q4 q5
          obtain ⟨b1, b2⟩ := hbx
          go_simp
        try simp only [Act.put]
        have e0 := HR12.out.s.cv 0 (by decide)
        have e1 := HR12.out.s.cv 1 (by decide)
        have e2 := HR12.out.s.cv 2 (by decide)
        have e3 := HR12.out.s.cv 3 (by decide)
        have e4 := HR12.out.s.cv 4 (by decide)
        have g0 := HR12.out.a.cv 0 (by decide)
        have g1 := HR12.out.a.cv 1 (by decide)
        have g2 := HR12.out.a.cv 2 (by decide)
        have g3 := HR12.out.a.cv 3 (by decide)
        have g4 := HR12.out.a.cv 4 (by decide)
        have f4 := HR12.out.s.fz
        have f5 := HR12.out.a.fz
        refine tillK_step (i := 7) (by kernel_rfl) rfl (by rfl) ?_
        intro Kv_7 hKv_7
        have HKv_7 := Lib.hid hKv_7
        clear hKv_7
        go_wp2_with fail
        refine HKv_7.out.out _ _ (fun _ => HX4.out _ _ _ _ _ rfl) ?_
        refine tillK_step (i := 8) (by kernel_rfl) rfl (by rfl) ?_
        intro Kv_8 hKv_8
        have HKv_8 := Lib.hid hKv_8
        clear hKv_8
        go_wp2_with fail
        refine HKv_8.out.out _ _ (fun h => by simp at h) ?_
        refine tillK_done (by kernel_rfl) ?_
        clear S0
        go_wp2_with fail
        refine bodyPost_ret (v := .tuple #[shV s6 A6, ansV ⟨0, zv, s6.ver, false, false⟩]) (by simp [results, Try.results22, go_sem, e0, e1, e2, e3, e4, g0, g1, g2, g3, g4]) rfl ?_
        rw [HE.out]
        exact (HFI.out _ rfl).drew
      case true =>
        have HE := Lib.hid (show r = (s6, ⟨0, zv, zn, true, false⟩) from by rw [HEr.out, HGA.out]; rfl)
        obtain ⟨_, c0, c1, c2, c3, c4⟩ := HP11.out.bs
        obtain ⟨_, q0, q1, q2, q3, q4, q5, q6⟩ := HP11.out.ob
        simp only at q0 q1 q2 q3 q4 q5
        obtain ⟨b1, b2, _, fz⟩ := HBX17.out
        go_upto_region 35 with (fail)
        rw [HW11.out, HXX.out]
        obtain ⟨w12, hw12⟩ : ∃ V, V = W11 := ⟨_, rfl⟩
        have HP12 := Lib.hid (show PB x s6 A6 ⟨kd, ⟨ta, ti⟩, key, P, cm⟩ a c u w12 from hw12 ▸ HP11.out)
        have HR12 := Lib.hid (show RsC B w w12 (x + 1 + 1) (x + 1 + 1 + 1) from hw12 ▸ HR11.out)
        have HV := Lib.hid (show w12.cell? ⟨x17, 1, none⟩ = some (.string zv) ∧ w12.cell? ⟨x17, 2, none⟩ = some (.int .u64 (zn : Nat)) from hw12 ▸ And.intro b1 b2)
        have HL12 := Lib.hid (show x17 < w12.heap.size from hw12 ▸ HBX17.out.2.2.1)
        rw [← hw12]
        clear hw12
        go_upto_region 37 with (fail)
        clear c0 c1 c2 c3 c4 q0 q1 q2 q3 q4 q5 q6 b1 b2 fz
        refine tillK_begin (S := fun w' => PB x s6 A6 ⟨kd, ⟨ta, ti⟩, key, P, cm⟩ a c u w' ∧ (w'.cell? ⟨x17, 1, none⟩ = some (.string zv) ∧ w'.cell? ⟨x17, 2, none⟩ = some (.int .u64 (zn : Nat)))) (k := 8) (by kernel_rfl) ?_
        have S0 : PB x s6 A6 ⟨kd, ⟨ta, ti⟩, key, P, cm⟩ a c u w12.drew ∧ (w12.drew.cell? ⟨x17, 1, none⟩ = some (.string zv) ∧ w12.drew.cell? ⟨x17, 2, none⟩ = some (.int .u64 (zn : Nat))) := ⟨HP12.out.later (Below.refl _ _).drew, HV.out⟩
        have HFI := Lib.hid (OrB.mk' (r := (s6, ⟨0, zv, zn, true, false⟩)) HR12.out HP12.out.m)
        have HX4 := Lib.hid (fun v0 v1 v2 v3 v4 (e : sK = [kdV v0, kdV v1, kdV v2, kdV v3, kdV v4]) => (show PB x s6 A6 ⟨kd, ⟨ta, ti⟩, key, P, cm⟩ a c u (set5s w12 (x + 1 + 1) v0 v1 v2 v3 v4).drew ∧ ((set5s w12 (x + 1 + 1) v0 v1 v2 v3 v4).drew.cell? ⟨x17, 1, none⟩ = some (.string zv) ∧ (set5s w12 (x + 1 + 1) v0 v1 v2 v3 v4).drew.cell? ⟨x17, 2, none⟩ = some (.int .u64 (zn : Nat))) from ⟨(HP12.out.set4 HR12.out.s (by omega) v0 v1 v2 v3 v4 e).later (Below.refl _ _).drew, cell_far5 HV.out.1 (by have := HX17.out; omega), cell_far5 HV.out.2 (by have := HX17.out; omega)⟩))
        refine tillK_take (i := 0) (v := .agg #[.slice A6.ra s6.rows.length A6.rc, .slice A6.ha s6.holds.length A6.hc, .slice A6.oa s6.opn.length A6.oc, .slice A6.da s6.done.length A6.dc, .int .u64 (s6.ver : Nat)]) rfl (by kernel_rfl) (by kernel_rfl) (by kernel_rfl) (by kernel_rfl) (by kernel_rfl) (by kernel_rfl) (fun _ _ _ h => h) (Or.inl ⟨by rfl, ?hyw_0⟩) (by assumption) ?restw_0
        case hyw_0 =>
          rintro w' ⟨⟨hb, ho, hm'⟩, hbx⟩
          obtain ⟨_, c0, c1, c2, c3, c4⟩ := hb
          obtain ⟨_, q0, q1, q2, q3, q4, q5, q6⟩ := ho
          simp only at q0 q1 q2 q3 q4 q5
          obtain ⟨b1, b2⟩ := hbx
          go_simp
        try simp only [Act.put, List.setIfInBounds_toArray]
        refine tillK_take (i := 1) (v := .pointer (some ⟨x17, 1, none⟩)) rfl (by kernel_rfl) (by kernel_rfl) (by kernel_rfl) (by kernel_rfl) (by kernel_rfl) (by kernel_rfl) (fun _ _ _ h => h) (Or.inl ⟨by rfl, ?hyw_1⟩) (by assumption) ?restw_1
        case hyw_1 =>
          rintro w' ⟨⟨hb, ho, hm'⟩, hbx⟩
          obtain ⟨_, c0, c1, c2, c3, c4⟩ := hb
          obtain ⟨_, q0, q1, q2, q3, q4, q5, q6⟩ := ho
          simp only at q0 q1 q2 q3 q4 q5
          obtain ⟨b1, b2⟩ := hbx
          go_simp
        try simp only [Act.put]
        refine tillK_take (i := 2) (v := .string zv) rfl (by kernel_rfl) (by kernel_rfl) (by kernel_rfl) (by kernel_rfl) (by kernel_rfl) (by kernel_rfl) (fun _ _ _ h => h) (Or.inl ⟨by rfl, ?hyw_2⟩) (by assumption) ?restw_2
        case hyw_2 =>
          rintro w' ⟨⟨hb, ho, hm'⟩, hbx⟩
          obtain ⟨_, c0, c1, c2, c3, c4⟩ := hb
          obtain ⟨_, q0, q1, q2, q3, q4, q5, q6⟩ := ho
          simp only at q0 q1 q2 q3 q4 q5
          obtain ⟨b1, b2⟩ := hbx
          go_simp
        try simp only [Act.put]
        refine tillK_take (i := 3) (v := .pointer (some ⟨x17, 2, none⟩)) rfl (by kernel_rfl) (by kernel_rfl) (by kernel_rfl) (by kernel_rfl) (by kernel_rfl) (by kernel_rfl) (fun _ _ _ h => h) (Or.inl ⟨by rfl, ?hyw_3⟩) (by assumption) ?restw_3
        case hyw_3 =>
          rintro w' ⟨⟨hb, ho, hm'⟩, hbx⟩
          obtain ⟨_, c0, c1, c2, c3, c4⟩ := hb
          obtain ⟨_, q0, q1, q2, q3, q4, q5, q6⟩ := ho
          simp only at q0 q1 q2 q3 q4 q5
          obtain ⟨b1, b2⟩ := hbx
          go_simp
        try simp only [Act.put]
        refine tillK_take (i := 4) (v := .int .u64 (zn : Nat)) rfl (by kernel_rfl) (by kernel_rfl) (by kernel_rfl) (by kernel_rfl) (by kernel_rfl) (by kernel_rfl) (fun _ _ _ h => h) (Or.inl ⟨by rfl, ?hyw_4⟩) (by assumption) ?restw_4
        case hyw_4 =>
          rintro w' ⟨⟨hb, ho, hm'⟩, hbx⟩
          obtain ⟨_, c0, c1, c2, c3, c4⟩ := hb
          obtain ⟨_, q0, q1, q2, q3, q4, q5, q6⟩ := ho
          simp only at q0 q1 q2 q3 q4 q5
          obtain ⟨b1, b2⟩ := hbx
          go_simp
        try simp only [Act.put]
        refine tillK_take (i := 5) (v := .bool true) rfl (by kernel_rfl) (by kernel_rfl) (by kernel_rfl) (by kernel_rfl) (by kernel_rfl) (by kernel_rfl) (fun _ _ _ h => h) (Or.inl ⟨by rfl, ?hyw_5⟩) (by assumption) ?restw_5
        case hyw_5 =>
          rintro w' ⟨⟨hb, ho, hm'⟩, hbx⟩
          obtain ⟨_, c0, c1, c2, c3, c4⟩ := hb
          obtain ⟨_, q0, q1, q2, q3, q4, q5, q6⟩ := ho
          simp only at q0 q1 q2 q3 q4 q5
          obtain ⟨b1, b2⟩ := hbx
          go_simp
        try simp only [Act.put]
        refine tillK_take (i := 6) (v := .agg #[.int .i64 0, .string zv, .int .u64 (zn : Nat), .bool true, .bool false]) rfl (by kernel_rfl) (by kernel_rfl) (by kernel_rfl) (by kernel_rfl) (by kernel_rfl) (by kernel_rfl) (fun _ _ _ h => h) (Or.inl ⟨by rfl, ?hyw_6⟩) (by assumption) ?restw_6
        case hyw_6 =>
          rintro w' ⟨⟨hb, ho, hm'⟩, hbx⟩
          obtain ⟨_, c0, c1, c2, c3, c4⟩ := hb
          obtain ⟨_, q0, q1, q2, q3, q4, q5, q6⟩ := ho
          simp only at q0 q1 q2 q3 q4 q5
          obtain ⟨b1, b2⟩ := hbx
          go_simp
        try simp only [Act.put]
        have e0 := HR12.out.s.cv 0 (by decide)
        have e1 := HR12.out.s.cv 1 (by decide)
        have e2 := HR12.out.s.cv 2 (by decide)
        have e3 := HR12.out.s.cv 3 (by decide)
        have e4 := HR12.out.s.cv 4 (by decide)
        have g0 := HR12.out.a.cv 0 (by decide)
        have g1 := HR12.out.a.cv 1 (by decide)
        have g2 := HR12.out.a.cv 2 (by decide)
        have g3 := HR12.out.a.cv 3 (by decide)
        have g4 := HR12.out.a.cv 4 (by decide)
        have f4 := HR12.out.s.fz
        have f5 := HR12.out.a.fz
        refine tillK_step (i := 7) (by kernel_rfl) rfl (by rfl) ?_
        intro Kw_7 hKw_7
        have HKw_7 := Lib.hid hKw_7
        clear hKw_7
        go_wp2_with fail
        refine HKw_7.out.out _ _ (fun _ => HX4.out _ _ _ _ _ rfl) ?_
        refine tillK_step (i := 8) (by kernel_rfl) rfl (by rfl) ?_
        intro Kw_8 hKw_8
        have HKw_8 := Lib.hid hKw_8
        clear hKw_8
        go_wp2_with fail
        refine HKw_8.out.out _ _ (fun h => by simp at h) ?_
        refine tillK_done (by kernel_rfl) ?_
        clear S0
        go_wp2_with fail
        refine bodyPost_ret (v := .tuple #[shV s6 A6, ansV ⟨0, zv, zn, true, false⟩]) (by simp [results, Try.results22, go_sem, e0, e1, e2, e3, e4, g0, g1, g2, g3, g4]) rfl ?_
        rw [HE.out]
        exact (HFI.out _ rfl).drew
end Go.Proofs.Ythgnecggdlamfaa
