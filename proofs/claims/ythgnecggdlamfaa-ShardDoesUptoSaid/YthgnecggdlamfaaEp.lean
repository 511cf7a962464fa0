/- The document's prepares: one that is known. -/
import Derived.Test.YthgnecggdlamfaaEr
import Derived.Test.YthgnecggdlamfaaTn
namespace Go.Proofs.Ythgnecggdlamfaa
open Go.RowKit

set_option maxRecDepth 100000 in
set_option maxHeartbeats 8000000 in
theorem prepKnown_any (B : Nat) (s : Sh) (A : Sad) (o : Odr) (a : Option Addr) (c : Nat) (q : Option Addr) (qn qc : Nat) (w : World) (hM : ShM w s A) (hB : B ≤ w.heap.size) (zs : SzS s) (zo : SzO o) (hov : oixS o.t 0 s.done = none ∧ ovrS o.t s.done = none) (hkn : ∃ (j : Nat) (y : SopM), A.om[j]? = some y ∧ kixS o.t 0 s.opn = some j ∧ knoS o.t s.opn = some y.x) (hcp : o.puts.length ≤ c ∧ c ≤ maxLen) (hP : Pus w a o.puts) :
    Calls Try.prog 23 #[shV s A, odrV o a c (.slice q qn qc)] w (OrB B w (prepS s o)) := by
  obtain ⟨u, hu⟩ : ∃ u, Value.slice q qn qc = u := ⟨_, rfl⟩
  rw [hu]
  clear hu
  obtain ⟨W, hW⟩ : ∃ W, doW w s A o a c u = W := ⟨_, rfl⟩
  obtain ⟨x, hx⟩ : ∃ x, w.heap.size = x := ⟨_, rfl⟩
  obtain ⟨hS, hO, hR, hBW, hsz⟩ := four hW hx
  have hol : s.opn.length ≤ 140737488351232 := by have := zs.olen; omega
  have hdl : s.done.length ≤ 140737488351232 := by have := zs.dlen; omega
  have HP := Lib.hid (show PB x s A o a c u W from ⟨hS, hO, hM.later hBW⟩)
  have HR := Lib.hid (show RsC B w W (x + 1 + 1) (x + 1 + 1 + 1) from ⟨hR.s, hR.a, Nat.le_trans hB hR.l4, hR.l5, hR.b.mono hB⟩)
  have HBX := Lib.hid (show B ≤ x from hx ▸ hB)
  have HDA := Lib.hid (fun w' (h : Below W.heap.size W w') => rOver_any s A o.t hdl w' ((hM.later hBW).later h))
  have HOA := Lib.hid (fun w' (h : Below W.heap.size W w') => rKnown_any s A o.t hol w' ((hM.later hBW).later h))
  have HPU := Lib.hid (fun w' (h : Below W.heap.size W w') => (hP.later hBW).later h)
  have HCP := Lib.hid hcp
  have HZ := Lib.hid zs
  have HZO := Lib.hid zo
  have HW := Lib.hid hW
  have HX := Lib.hid hx
  have HSZ := Lib.hid hsz
  obtain ⟨kd, ⟨ta, ti⟩, key, P, cm⟩ := o
  obtain ⟨r, hr⟩ : ∃ r, prepS s ⟨kd, ⟨ta, ti⟩, key, P, cm⟩ = r := ⟨_, rfl⟩
  rw [hr]
  have HRR := Lib.hid hr
  obtain ⟨_, q0, q1, q2, q3, q4, q5, q6⟩ := hO
  obtain ⟨_, c0, c1, c2, c3, c4⟩ := hS
  simp only at q0 q1 q2 q3 q4 q5 HDA HOA
  simp only at hov hkn
  have HOVH := Lib.hid hov
  have HKNH := Lib.hid hkn
  clear hov hkn
  simp only at HCP hcp HPU hP
  clear hcp hP
  clear hM hB zs zo hR hBW hsz hW hx hr
  go_enter Try.func23, Try.ntmps23
  go_wp2_with fail
  have hWX := HW.out
  simp only [doW] at hWX
  rw [hWX, HX.out]
  clear hWX
  go_wp2_with fail
  refine (HDA.out W (Below.refl _ _)).mono ?_
  rintro e w1 ⟨rfl, hb1⟩
  have HB1 := Lib.hid hb1
  have HP1 := Lib.hid (HP.out.later hb1)
  have HR1 := Lib.hid (HR.out.later HR.out.size hb1)
  clear hb1 c0 c1 c2 c3 c4 q0 q1 q2 q3 q4 q5 q6
  obtain ⟨_, c0, c1, c2, c3, c4⟩ := HP1.out.bs
  obtain ⟨_, q0, q1, q2, q3, q4, q5, q6⟩ := HP1.out.ob
  simp only at q0 q1 q2 q3 q4 q5
  go_wp2_with fail
  refine (HOA.out w1 HB1.out).mono ?_
  rintro e w2 ⟨rfl, hb2⟩
  have HB2 := Lib.hid (HB1.out.trans (hb2.mono HB1.out.size))
  have HP2 := Lib.hid (HP1.out.later hb2)
  have HR2 := Lib.hid (HR1.out.later HR1.out.size hb2)
  clear hb2 c0 c1 c2 c3 c4 q0 q1 q2 q3 q4 q5 q6
  have hov := HOVH.out
  rw [hov.1]
  have gI : ixI none = -1 := rfl
  rw [gI]
  have HOV := Lib.hid hov.2
  clear gI hov
  obtain ⟨j, y, hy, h3, h5⟩ := HKNH.out
  have HK3 := Lib.hid h3
  rw [h3]
  have gI : ixI (some j) = (j : Int) := rfl
  rw [gI]
  have hym := List.mem_of_getElem? hy
  have hys := HZ.out.opn y.x (by rw [← HP2.out.m.om]; exact List.mem_map.2 ⟨y, hym, rfl⟩)
  have hjl := (List.getElem?_eq_some_iff.1 hy).1
  rw [HP2.out.m.olen] at hjl
  obtain ⟨b, off, hoa, _, p0, p1, p2, p3, p4⟩ := Sop.cells HP2.out.m.opn hy
  have i0 : (0 : Int) ≤ (j : Int) := by omega
  have i1 : (j : Int) < (s.opn.length : Int) := by omega
  have i2 : ¬ (j : Int) < 0 := by omega
  obtain ⟨⟨⟨ya, yi⟩, yf, yw, yp⟩, pa, pc⟩ := y
  simp only at p0 p1 p2 p3 p4 hys h5
  clear gI h3 hjl
  have HOA2 := Lib.hid hoa
  obtain ⟨_, c0, c1, c2, c3, c4⟩ := HP2.out.bs
  obtain ⟨_, q0, q1, q2, q3, q4, q5, q6⟩ := HP2.out.ob
  simp only at q0 q1 q2 q3 q4 q5
  rw [hoa] at c2
  cases yw
  case true =>
    have HE := Lib.hid (show r = (s, ansE 12) from by rw [← HRR.out]; unfold prepS; simp only [HOV.out, h5, if_true])
    clear h5 hys hym hy hoa
    go_upto_region 8 with (fail)
    refine tillK_begin (S := PB x s A ⟨kd, ⟨ta, ti⟩, key, P, cm⟩ a c u) (k := 3) (by kernel_rfl) ?_
    have S0 : PB x s A ⟨kd, ⟨ta, ti⟩, key, P, cm⟩ a c u w2.drew := HP2.out.later (Below.refl _ _).drew
    have HRe := Lib.hid (HR2.out.later HR2.out.size (Below.refl _ _).drew)
    refine tillK_take (i := 0) (v := .agg #[.slice A.ra s.rows.length A.rc, .slice A.ha s.holds.length A.hc, .slice A.oa s.opn.length A.oc, .slice A.da s.done.length A.dc, .int .u64 (s.ver : Nat)]) rfl (by kernel_rfl) (by kernel_rfl) (by kernel_rfl) (by kernel_rfl) (by kernel_rfl) (by kernel_rfl) (fun _ _ _ h => h) (Or.inl ⟨by rfl, ?hya_0⟩) (by assumption) ?resta_0
    case hya_0 =>
      rintro w' ⟨hb, ho, hm⟩
      obtain ⟨_, c0, c1, c2, c3, c4⟩ := hb
      obtain ⟨_, q0, q1, q2, q3, q4, q5, q6⟩ := ho
      simp only at q0 q1 q2 q3 q4 q5
      go_simp
    try simp only [Act.put, List.setIfInBounds_toArray]
    refine tillK_step (i := 1) (by kernel_rfl) rfl (by rfl) ?_
    intro Ka_1 hKa_1
    have HKa_1 := Lib.hid hKa_1
    clear hKa_1
    go_wp2_with fail
    refine (rNo_any 12 _).mono ?_
    rintro e w7 ⟨rfl, hb7⟩
    have HP7 := Lib.hid (S0.later hb7)
    have HR7 := Lib.hid (HRe.out.later HRe.out.size hb7)
    have HFI := Lib.hid (OrB.mk' (r := (s, ansE 12)) HR7.out HP7.out.m)
    have HX4 := Lib.hid (fun v0 v1 v2 v3 v4 (e : sK = [kdV v0, kdV v1, kdV v2, kdV v3, kdV v4]) => HP7.out.set4 HR7.out.s (by omega) v0 v1 v2 v3 v4 e)
    have e0 := HR7.out.s.cv 0 (by decide)
    have e1 := HR7.out.s.cv 1 (by decide)
    have e2 := HR7.out.s.cv 2 (by decide)
    have e3 := HR7.out.s.cv 3 (by decide)
    have e4 := HR7.out.s.cv 4 (by decide)
    have g0 := HR7.out.a.cv 0 (by decide)
    have g1 := HR7.out.a.cv 1 (by decide)
    have g2 := HR7.out.a.cv 2 (by decide)
    have g3 := HR7.out.a.cv 3 (by decide)
    have g4 := HR7.out.a.cv 4 (by decide)
    have f4 := HR7.out.s.fz
    have f5 := HR7.out.a.fz
    clear hb7
    try dsimp only
    refine HKa_1.out.out _ _ (fun _ => HP7.out) ?_
    refine tillK_step (i := 2) (by kernel_rfl) rfl (by rfl) ?_
    intro Ka_2 hKa_2
    have HKa_2 := Lib.hid hKa_2
    clear hKa_2
    go_wp2_with fail
    refine HKa_2.out.out _ _ (fun _ => HX4.out _ _ _ _ _ rfl) ?_
    refine tillK_step (i := 3) (by kernel_rfl) rfl (by rfl) ?_
    intro Ka_3 hKa_3
    have HKa_3 := Lib.hid hKa_3
    clear hKa_3
    go_wp2_with fail
    refine HKa_3.out.out _ _ (fun h => by simp at h) ?_
    refine tillK_done (by kernel_rfl) ?_
    clear S0
    go_wp2_with fail
    refine bodyPost_ret (v := .tuple #[shV s A, ansV (ansE 12)]) (by simp [results, Try.results23, go_sem, e0, e1, e2, e3, e4, g0, g1, g2, g3, g4, ansE]) rfl ?_
    rw [HE.out]
    exact HFI.out _ rfl
  obtain ⟨zb, hzb⟩ : ∃ z, samPs yp P = z := ⟨_, rfl⟩
  have hml : P.length ≤ 140737488351232 := by have := HZO.out.plen; simp only at this; omega
  have HSA := Lib.hid (fun w' (h2 : Below W.heap.size W w') (h : Below w2.heap.size w2 w') => rSamePuts_any yp.length pc P.length c pa a yp P rfl (by have := hys.2.1; omega) rfl hml w' ((HP2.out.m.puts _ hym).later h) (HPU.out w' h2))
  rw [hzb] at HSA
  have HZB := Lib.hid hzb
  clear hzb
  go_upto_region 9 with (fail)
  clear c0 c1 c2 c3 c4 q0 q1 q2 q3 q4 q5 q6 p0 p1 p2 p3 p4
  refine tillK_begin (S := PB x s A ⟨kd, ⟨ta, ti⟩, key, P, cm⟩ a c u) (k := 9) (by kernel_rfl) ?_
  have S0 : PB x s A ⟨kd, ⟨ta, ti⟩, key, P, cm⟩ a c u w2.drew := HP2.out.later (Below.refl _ _).drew
  refine tillK_take (i := 0) (v := .pointer (some ⟨x, 2, none⟩)) rfl (by kernel_rfl) (by kernel_rfl) (by kernel_rfl) (by kernel_rfl) (by kernel_rfl) (by kernel_rfl) (fun _ _ _ h => h) (Or.inl ⟨by rfl, ?hys_0⟩) (by assumption) ?rests_0
  case hys_0 =>
    rintro w' ⟨hb, ho, hm'⟩
    obtain ⟨_, c0, c1, c2, c3, c4⟩ := hb
    obtain ⟨_, q0, q1, q2, q3, q4, q5, q6⟩ := ho
    rw [HOA2.out] at c2
    simp only at q0 q1 q2 q3 q4 q5
    go_simp
  try simp only [Act.put, List.setIfInBounds_toArray]
  refine tillK_take (i := 1) (v := .slice (some ⟨b, off, none⟩) s.opn.length A.oc) rfl (by kernel_rfl) (by kernel_rfl) (by kernel_rfl) (by kernel_rfl) (by kernel_rfl) (by kernel_rfl) (fun _ _ _ h => h) (Or.inl ⟨by rfl, ?hys_1⟩) (by assumption) ?rests_1
  case hys_1 =>
    rintro w' ⟨hb, ho, hm'⟩
    obtain ⟨_, c0, c1, c2, c3, c4⟩ := hb
    obtain ⟨_, q0, q1, q2, q3, q4, q5, q6⟩ := ho
    rw [HOA2.out] at c2
    simp only at q0 q1 q2 q3 q4 q5
    go_simp
  try simp only [Act.put]
  refine tillK_take (i := 2) (v := .int .i64 j) rfl (by kernel_rfl) (by kernel_rfl) (by kernel_rfl) (by kernel_rfl) (by kernel_rfl) (by kernel_rfl) (fun _ _ _ h => h) (Or.inl ⟨by rfl, ?hys_2⟩) (by assumption) ?rests_2
  case hys_2 =>
    rintro w' ⟨hb, ho, hm'⟩
    obtain ⟨_, c0, c1, c2, c3, c4⟩ := hb
    obtain ⟨_, q0, q1, q2, q3, q4, q5, q6⟩ := ho
    rw [HOA2.out] at c2
    simp only at q0 q1 q2 q3 q4 q5
    go_simp
  try simp only [Act.put]
  refine tillK_take (i := 3) (v := .pointer (some ⟨b, off + j * 5, none⟩)) rfl (by kernel_rfl) (by kernel_rfl) (by kernel_rfl) (by kernel_rfl) (by kernel_rfl) (by kernel_rfl) (fun _ _ _ h => h) (Or.inl ⟨by rfl, ?hys_3⟩) (by assumption) ?rests_3
  case hys_3 =>
    rintro w' ⟨hb, ho, hm'⟩
    obtain ⟨_, c0, c1, c2, c3, c4⟩ := hb
    obtain ⟨_, q0, q1, q2, q3, q4, q5, q6⟩ := ho
    rw [HOA2.out] at c2
    simp only at q0 q1 q2 q3 q4 q5
    go_simp
  try simp only [Act.put]
  refine tillK_take (i := 4) (v := .pointer (some ⟨b, off + j * 5 + 4, none⟩)) rfl (by kernel_rfl) (by kernel_rfl) (by kernel_rfl) (by kernel_rfl) (by kernel_rfl) (by kernel_rfl) (fun _ _ _ h => h) (Or.inl ⟨by rfl, ?hys_4⟩) (by assumption) ?rests_4
  case hys_4 =>
    rintro w' ⟨hb, ho, hm'⟩
    obtain ⟨_, c0, c1, c2, c3, c4⟩ := hb
    obtain ⟨_, q0, q1, q2, q3, q4, q5, q6⟩ := ho
    rw [HOA2.out] at c2
    simp only at q0 q1 q2 q3 q4 q5
    go_simp
  try simp only [Act.put]
  refine tillK_take (i := 5) (v := .slice pa yp.length pc) rfl (by kernel_rfl) (by kernel_rfl) (by kernel_rfl) (by kernel_rfl) (by kernel_rfl) (by kernel_rfl) (fun _ _ _ h => h) (Or.inl ⟨by rfl, ?hys_5⟩) (by assumption) ?rests_5
  case hys_5 =>
    rintro w' ⟨hb, ho, hm'⟩
    obtain ⟨_, c0, c1, c2, c3, c4⟩ := hb
    obtain ⟨_, q0, q1, q2, q3, q4, q5, q6⟩ := ho
    rw [HOA2.out] at c2
    simp only at q0 q1 q2 q3 q4 q5
    obtain ⟨_, p0, p1, p2, p3, p4⟩ := op_at hm' HOA2.out hy
    simp only at p0 p1 p2 p3 p4
    go_simp
  try simp only [Act.put]
  refine tillK_take (i := 6) (v := .pointer (some ⟨x + 1, 4, none⟩)) rfl (by kernel_rfl) (by kernel_rfl) (by kernel_rfl) (by kernel_rfl) (by kernel_rfl) (by kernel_rfl) (fun _ _ _ h => h) (Or.inl ⟨by rfl, ?hys_6⟩) (by assumption) ?rests_6
  case hys_6 =>
    rintro w' ⟨hb, ho, hm'⟩
    obtain ⟨_, c0, c1, c2, c3, c4⟩ := hb
    obtain ⟨_, q0, q1, q2, q3, q4, q5, q6⟩ := ho
    rw [HOA2.out] at c2
    simp only at q0 q1 q2 q3 q4 q5
    go_simp
  try simp only [Act.put]
  refine tillK_take (i := 7) (v := .slice a P.length c) rfl (by kernel_rfl) (by kernel_rfl) (by kernel_rfl) (by kernel_rfl) (by kernel_rfl) (by kernel_rfl) (fun _ _ _ h => h) (Or.inl ⟨by rfl, ?hys_7⟩) (by assumption) ?rests_7
  case hys_7 =>
    rintro w' ⟨hb, ho, hm'⟩
    obtain ⟨_, c0, c1, c2, c3, c4⟩ := hb
    obtain ⟨_, q0, q1, q2, q3, q4, q5, q6⟩ := ho
    rw [HOA2.out] at c2
    simp only at q0 q1 q2 q3 q4 q5
    go_simp
  try simp only [Act.put]
  refine tillK_step (i := 8) (by kernel_rfl) rfl (by rfl) ?_
  intro Ks_8 hKs_8
  have HKs_8 := Lib.hid hKs_8
  clear hKs_8
  go_wp2_with fail
  refine (HSA.out _ (HB2.out.trans ((Below.refl w2.heap.size w2).drew.mono HB2.out.size)) (Below.refl _ _).drew).mono ?_
  rintro e w3 ⟨rfl, hb3⟩
  have hbd3 := (Below.refl w2.heap.size w2).drew.trans hb3
  have HP3 := Lib.hid (S0.later hb3)
  have HR3 := Lib.hid (HR2.out.later HR2.out.size hbd3)
  have HB3 := Lib.hid (HB2.out.trans (hbd3.mono HB2.out.size))
  have S3 := HP3.out
  clear hb3 hbd3 S0
  dsimp only
  refine HKs_8.out.out _ _ (fun _ => HP3.out) ?_
  refine tillK_step (i := 9) (by kernel_rfl) rfl (by rfl) ?_
  intro Ks_9 hKs_9
  have HKs_9 := Lib.hid hKs_9
  clear hKs_9
  go_wp2_with fail
  refine HKs_9.out.out _ _ (fun h => by simp at h) ?_
  refine tillK_done (by kernel_rfl) ?_
  clear S3
  obtain ⟨_, c0, c1, c2, c3, c4⟩ := HP3.out.bs
  obtain ⟨_, q0, q1, q2, q3, q4, q5, q6⟩ := HP3.out.ob
  simp only at q0 q1 q2 q3 q4 q5
  rw [hoa] at c2
  obtain ⟨_, p0, p1, p2, p3, p4⟩ := op_at HP3.out.m hoa hy
  simp only at p0 p1 p2 p3 p4
  cases yf
  case true =>
    cases zb
    case true =>
      have HE := Lib.hid (show r = (s, ansE 0) from by rw [← HRR.out]; unfold prepS; simp only [HOV.out, h5, HZB.out, if_true, Bool.false_eq_true, if_false])
      clear h5 hys hym hy hoa
      go_upto_region 11 with (fail)
      refine tillK_begin (S := PB x s A ⟨kd, ⟨ta, ti⟩, key, P, cm⟩ a c u) (k := 3) (by kernel_rfl) ?_
      have S0 : PB x s A ⟨kd, ⟨ta, ti⟩, key, P, cm⟩ a c u w3.drew := HP3.out.later (Below.refl _ _).drew
      have HRe := Lib.hid (HR3.out.later HR3.out.size (Below.refl _ _).drew)
      refine tillK_take (i := 0) (v := .agg #[.slice A.ra s.rows.length A.rc, .slice A.ha s.holds.length A.hc, .slice A.oa s.opn.length A.oc, .slice A.da s.done.length A.dc, .int .u64 (s.ver : Nat)]) rfl (by kernel_rfl) (by kernel_rfl) (by kernel_rfl) (by kernel_rfl) (by kernel_rfl) (by kernel_rfl) (fun _ _ _ h => h) (Or.inl ⟨by rfl, ?hyb_0⟩) (by assumption) ?restb_0
      case hyb_0 =>
        rintro w' ⟨hb, ho, hm⟩
        obtain ⟨_, c0, c1, c2, c3, c4⟩ := hb
        obtain ⟨_, q0, q1, q2, q3, q4, q5, q6⟩ := ho
        simp only at q0 q1 q2 q3 q4 q5
        go_simp
      try simp only [Act.put, List.setIfInBounds_toArray]
      refine tillK_step (i := 1) (by kernel_rfl) rfl (by rfl) ?_
      intro Kb_1 hKb_1
      have HKb_1 := Lib.hid hKb_1
      clear hKb_1
      go_wp2_with fail
      refine (rNo_any 0 _).mono ?_
      rintro e w7 ⟨rfl, hb7⟩
      have HP7 := Lib.hid (S0.later hb7)
      have HR7 := Lib.hid (HRe.out.later HRe.out.size hb7)
      have HFI := Lib.hid (OrB.mk' (r := (s, ansE 0)) HR7.out HP7.out.m)
      have HX4 := Lib.hid (fun v0 v1 v2 v3 v4 (e : sK = [kdV v0, kdV v1, kdV v2, kdV v3, kdV v4]) => HP7.out.set4 HR7.out.s (by omega) v0 v1 v2 v3 v4 e)
      have e0 := HR7.out.s.cv 0 (by decide)
      have e1 := HR7.out.s.cv 1 (by decide)
      have e2 := HR7.out.s.cv 2 (by decide)
      have e3 := HR7.out.s.cv 3 (by decide)
      have e4 := HR7.out.s.cv 4 (by decide)
      have g0 := HR7.out.a.cv 0 (by decide)
      have g1 := HR7.out.a.cv 1 (by decide)
      have g2 := HR7.out.a.cv 2 (by decide)
      have g3 := HR7.out.a.cv 3 (by decide)
      have g4 := HR7.out.a.cv 4 (by decide)
      have f4 := HR7.out.s.fz
      have f5 := HR7.out.a.fz
      clear hb7
      try dsimp only
      refine HKb_1.out.out _ _ (fun _ => HP7.out) ?_
      refine tillK_step (i := 2) (by kernel_rfl) rfl (by rfl) ?_
      intro Kb_2 hKb_2
      have HKb_2 := Lib.hid hKb_2
      clear hKb_2
      go_wp2_with fail
      refine HKb_2.out.out _ _ (fun _ => HX4.out _ _ _ _ _ rfl) ?_
      refine tillK_step (i := 3) (by kernel_rfl) rfl (by rfl) ?_
      intro Kb_3 hKb_3
      have HKb_3 := Lib.hid hKb_3
      clear hKb_3
      go_wp2_with fail
      refine HKb_3.out.out _ _ (fun h => by simp at h) ?_
      refine tillK_done (by kernel_rfl) ?_
      clear S0
      go_wp2_with fail
      refine bodyPost_ret (v := .tuple #[shV s A, ansV (ansE 0)]) (by simp [results, Try.results23, go_sem, e0, e1, e2, e3, e4, g0, g1, g2, g3, g4, ansE]) rfl ?_
      rw [HE.out]
      exact HFI.out _ rfl
    have HE := Lib.hid (show r = (s, ansE 9) from by rw [← HRR.out]; unfold prepS; simp only [HOV.out, h5, HZB.out, if_true, Bool.false_eq_true, if_false])
    clear h5 hys hym hy hoa
    go_upto_region 13 with (fail)
    refine tillK_begin (S := PB x s A ⟨kd, ⟨ta, ti⟩, key, P, cm⟩ a c u) (k := 3) (by kernel_rfl) ?_
    have S0 : PB x s A ⟨kd, ⟨ta, ti⟩, key, P, cm⟩ a c u w3.drew := HP3.out.later (Below.refl _ _).drew
    have HRe := Lib.hid (HR3.out.later HR3.out.size (Below.refl _ _).drew)
    refine tillK_take (i := 0) (v := .agg #[.slice A.ra s.rows.length A.rc, .slice A.ha s.holds.length A.hc, .slice A.oa s.opn.length A.oc, .slice A.da s.done.length A.dc, .int .u64 (s.ver : Nat)]) rfl (by kernel_rfl) (by kernel_rfl) (by kernel_rfl) (by kernel_rfl) (by kernel_rfl) (by kernel_rfl) (fun _ _ _ h => h) (Or.inl ⟨by rfl, ?hyc_0⟩) (by assumption) ?restc_0
    case hyc_0 =>
      rintro w' ⟨hb, ho, hm⟩
      obtain ⟨_, c0, c1, c2, c3, c4⟩ := hb
      obtain ⟨_, q0, q1, q2, q3, q4, q5, q6⟩ := ho
      simp only at q0 q1 q2 q3 q4 q5
      go_simp
    try simp only [Act.put, List.setIfInBounds_toArray]
    refine tillK_step (i := 1) (by kernel_rfl) rfl (by rfl) ?_
    intro Kc_1 hKc_1
    have HKc_1 := Lib.hid hKc_1
    clear hKc_1
    go_wp2_with fail
    refine (rNo_any 9 _).mono ?_
    rintro e w7 ⟨rfl, hb7⟩
    have HP7 := Lib.hid (S0.later hb7)
    have HR7 := Lib.hid (HRe.out.later HRe.out.size hb7)
    have HFI := Lib.hid (OrB.mk' (r := (s, ansE 9)) HR7.out HP7.out.m)
    have HX4 := Lib.hid (fun v0 v1 v2 v3 v4 (e : sK = [kdV v0, kdV v1, kdV v2, kdV v3, kdV v4]) => HP7.out.set4 HR7.out.s (by omega) v0 v1 v2 v3 v4 e)
    have e0 := HR7.out.s.cv 0 (by decide)
    have e1 := HR7.out.s.cv 1 (by decide)
    have e2 := HR7.out.s.cv 2 (by decide)
    have e3 := HR7.out.s.cv 3 (by decide)
    have e4 := HR7.out.s.cv 4 (by decide)
    have g0 := HR7.out.a.cv 0 (by decide)
    have g1 := HR7.out.a.cv 1 (by decide)
    have g2 := HR7.out.a.cv 2 (by decide)
    have g3 := HR7.out.a.cv 3 (by decide)
    have g4 := HR7.out.a.cv 4 (by decide)
    have f4 := HR7.out.s.fz
    have f5 := HR7.out.a.fz
    clear hb7
    try dsimp only
    refine HKc_1.out.out _ _ (fun _ => HP7.out) ?_
    refine tillK_step (i := 2) (by kernel_rfl) rfl (by rfl) ?_
    intro Kc_2 hKc_2
    have HKc_2 := Lib.hid hKc_2
    clear hKc_2
    go_wp2_with fail
    refine HKc_2.out.out _ _ (fun _ => HX4.out _ _ _ _ _ rfl) ?_
    refine tillK_step (i := 3) (by kernel_rfl) rfl (by rfl) ?_
    intro Kc_3 hKc_3
    have HKc_3 := Lib.hid hKc_3
    clear hKc_3
    go_wp2_with fail
    refine HKc_3.out.out _ _ (fun h => by simp at h) ?_
    refine tillK_done (by kernel_rfl) ?_
    clear S0
    go_wp2_with fail
    refine bodyPost_ret (v := .tuple #[shV s A, ansV (ansE 9)]) (by simp [results, Try.results23, go_sem, e0, e1, e2, e3, e4, g0, g1, g2, g3, g4, ansE]) rfl ?_
    rw [HE.out]
    exact HFI.out _ rfl
  have h6 : prepS s ⟨kd, ⟨ta, ti⟩, key, P, cm⟩ = if fitsX P ≠ 0 then (s, ansE (fitsX P)) else if P.all (fun p => hasH ⟨ta, ti⟩ p.key true s.holds) = false then (s, ansE 9) else if 32 < keysN s P then (s, ansE 5) else (⟨s.rows, s.holds, prpS ⟨ta, ti⟩ P s.opn, s.done, s.ver⟩, ansE 0) := by
    unfold prepS
    simp only [HOV.out, h5, Bool.false_eq_true, if_false]
  have HPRP := Lib.hid (prp_set ⟨ta, ti⟩ P s.opn 0 j ⟨⟨ya, yi⟩, false, false, yp⟩ (by rw [Nat.zero_add]; exact HK3.out) (by rw [← HP2.out.m.om, List.getElem?_map, hy]; rfl))
  obtain ⟨f, hf⟩ : ∃ f, fitsX P = f := ⟨_, rfl⟩
  have HFX := Lib.hid hf
  have HFI0 := Lib.hid (rFits_any P.length c a P rfl hml w3 (HPU.out w3 HB3.out))
  rw [hf] at h6 HFI0
  have HRE := Lib.hid (HRR.out.symm.trans h6)
  have HHY := Lib.hid hy
  clear h6 hf h5 hys hym hy
  go_wp2_with fail
  refine HFI0.out.mono ?_
  rintro e w4 ⟨rfl, hb4⟩
  have HB4 := Lib.hid (HB3.out.trans (hb4.mono HB3.out.size))
  have HP4 := Lib.hid (HP3.out.later hb4)
  have HR4 := Lib.hid (HR3.out.later HR3.out.size hb4)
  clear hb4 c0 c1 c2 c3 c4 q0 q1 q2 q3 q4 q5 q6 p0 p1 p2 p3 p4
  by_cases hf0 : f = 0
  case neg =>
    have HE := Lib.hid (HRE.out.trans (if_pos hf0))
    have g1 : ((f : Int) == 0) = false := by simp; omega
    have g2 : ((f : Int) != 0) = true := by simp; omega
    clear hf0 hoa
    go_upto_region 16 with (fail)
    refine tillK_begin (S := PB x s A ⟨kd, ⟨ta, ti⟩, key, P, cm⟩ a c u) (k := 4) (by kernel_rfl) ?_
    have S0 : PB x s A ⟨kd, ⟨ta, ti⟩, key, P, cm⟩ a c u w4.drew := HP4.out.later (Below.refl _ _).drew
    have HRe := Lib.hid (HR4.out.later HR4.out.size (Below.refl _ _).drew)
    refine tillK_take (i := 0) (v := .agg #[.slice A.ra s.rows.length A.rc, .slice A.ha s.holds.length A.hc, .slice A.oa s.opn.length A.oc, .slice A.da s.done.length A.dc, .int .u64 (s.ver : Nat)]) rfl (by kernel_rfl) (by kernel_rfl) (by kernel_rfl) (by kernel_rfl) (by kernel_rfl) (by kernel_rfl) (fun _ _ _ h => h) (Or.inl ⟨by rfl, ?hyd_0⟩) (by assumption) ?restd_0
    case hyd_0 =>
      rintro w' ⟨hb, ho, hm⟩
      obtain ⟨_, c0, c1, c2, c3, c4⟩ := hb
      obtain ⟨_, q0, q1, q2, q3, q4, q5, q6⟩ := ho
      simp only at q0 q1 q2 q3 q4 q5
      go_simp
    try simp only [Act.put, List.setIfInBounds_toArray]
    refine tillK_take (i := 1) (v := .int .i64 (f : Nat)) rfl (by kernel_rfl) (by kernel_rfl) (by kernel_rfl) (by kernel_rfl) (by kernel_rfl) (by kernel_rfl) (fun _ _ _ h => h) (Or.inl ⟨by rfl, ?hyd_1⟩) (by assumption) ?restd_1
    case hyd_1 =>
      rintro w' ⟨hb, ho, hm⟩
      obtain ⟨_, c0, c1, c2, c3, c4⟩ := hb
      obtain ⟨_, q0, q1, q2, q3, q4, q5, q6⟩ := ho
      simp only at q0 q1 q2 q3 q4 q5
      go_simp
    try simp only [Act.put]
    refine tillK_step (i := 2) (by kernel_rfl) rfl (by rfl) ?_
    intro Kd_2 hKd_2
    have HKd_2 := Lib.hid hKd_2
    clear hKd_2
    go_wp2_with fail
    refine (rNo_any f _).mono ?_
    rintro e w7 ⟨rfl, hb7⟩
    have HP7 := Lib.hid (S0.later hb7)
    have HR7 := Lib.hid (HRe.out.later HRe.out.size hb7)
    have HFI := Lib.hid (OrB.mk' (r := (s, ansE f)) HR7.out HP7.out.m)
    have HX4 := Lib.hid (fun v0 v1 v2 v3 v4 (e : sK = [kdV v0, kdV v1, kdV v2, kdV v3, kdV v4]) => HP7.out.set4 HR7.out.s (by omega) v0 v1 v2 v3 v4 e)
    have e0 := HR7.out.s.cv 0 (by decide)
    have e1 := HR7.out.s.cv 1 (by decide)
    have e2 := HR7.out.s.cv 2 (by decide)
    have e3 := HR7.out.s.cv 3 (by decide)
    have e4 := HR7.out.s.cv 4 (by decide)
    have g0 := HR7.out.a.cv 0 (by decide)
    have g1 := HR7.out.a.cv 1 (by decide)
    have g2 := HR7.out.a.cv 2 (by decide)
    have g3 := HR7.out.a.cv 3 (by decide)
    have g4 := HR7.out.a.cv 4 (by decide)
    have f4 := HR7.out.s.fz
    have f5 := HR7.out.a.fz
    clear hb7
    try dsimp only
    refine HKd_2.out.out _ _ (fun _ => HP7.out) ?_
    refine tillK_step (i := 3) (by kernel_rfl) rfl (by rfl) ?_
    intro Kd_3 hKd_3
    have HKd_3 := Lib.hid hKd_3
    clear hKd_3
    go_wp2_with fail
    refine HKd_3.out.out _ _ (fun _ => HX4.out _ _ _ _ _ rfl) ?_
    refine tillK_step (i := 4) (by kernel_rfl) rfl (by rfl) ?_
    intro Kd_4 hKd_4
    have HKd_4 := Lib.hid hKd_4
    clear hKd_4
    go_wp2_with fail
    refine HKd_4.out.out _ _ (fun h => by simp at h) ?_
    refine tillK_done (by kernel_rfl) ?_
    clear S0
    go_wp2_with fail
    refine bodyPost_ret (v := .tuple #[shV s A, ansV (ansE f)]) (by simp [results, Try.results23, go_sem, e0, e1, e2, e3, e4, g0, g1, g2, g3, g4, ansE]) rfl ?_
    rw [HE.out]
    exact HFI.out _ rfl
  subst hf0
  have hre := HRE.out
  rw [if_neg (by simp)] at hre
  obtain ⟨al, hal⟩ : ∃ z, P.all (fun p => hasH ⟨ta, ti⟩ p.key true s.holds) = z := ⟨_, rfl⟩
  rw [hal] at hre
  have HRE2 := Lib.hid hre
  have HAL := Lib.hid (show (P.drop 0).all (fun p => hasH ⟨ta, ti⟩ p.key true s.holds) = al from hal)
  clear hre hal hoa
  obtain ⟨_, c0, c1, c2, c3, c4⟩ := HP4.out.bs
  obtain ⟨_, q0, q1, q2, q3, q4, q5, q6⟩ := HP4.out.ob
  simp only at q0 q1 q2 q3 q4 q5
  go_wp2_with fail
  clear c0 c1 c2 c3 c4 q0 q1 q2 q3 q4 q5 q6
  go_loopw [10] (fun iv wr => ∃ k : Nat, k ≤ P.length ∧ iv = .int .i64 k ∧ (P.drop k).all (fun p => hasH ⟨ta, ti⟩ p.key true s.holds) = al ∧ Below w4.heap.size w4 wr) (fun iv _ => P.length - (intOf iv).toNat)
  case atStart => exact ⟨0, Nat.zero_le _, rfl, HAL.out, Below.refl _ _⟩
  case round =>
    obtain ⟨k, hk, rfl, hak, hBw⟩ := hrel
    have HAK := Lib.hid hak
    have HBW := Lib.hid hBw
    have HBk := Lib.hid (HB4.out.trans (hBw.mono HB4.out.size))
    have HPk := Lib.hid (HP4.out.later hBw)
    have HRk := Lib.hid (HR4.out.later HR4.out.size hBw)
    clear hak hBw
    obtain ⟨_, c0, c1, c2, c3, c4⟩ := HPk.out.bs
    obtain ⟨_, q0, q1, q2, q3, q4, q5, q6⟩ := HPk.out.ob
    simp only at q0 q1 q2 q3 q4 q5
    by_cases hlt : k < P.length
    · obtain ⟨p, hx⟩ : ∃ p, P[k]? = some p := ⟨_, List.getElem?_eq_getElem hlt⟩
      have i3 : (0 : Int) ≤ (k : Int) := by omega
      have i4 : (k : Int) < (P.length : Int) := by omega
      obtain ⟨b5, off5, rfl, _, _, _, _⟩ := Pus.cells (HPU.out wr HBk.out) hx
      have HHA := Lib.hid (fun w' (h : Below wr.heap.size wr w') => rHas_any s.holds.length A.hc A.ha s.holds ⟨ta, ti⟩ p.key true rfl (by have := HZ.out.hlen; omega) w' (HPk.out.m.later h).holds)
      obtain ⟨hh, hhh⟩ : ∃ z, hasH ⟨ta, ti⟩ p.key true s.holds = z := ⟨_, rfl⟩
      have HDA2 := Lib.hid (show al = (hh && (P.drop (k + 1)).all (fun p => hasH ⟨ta, ti⟩ p.key true s.holds)) from by
        rw [← HAK.out, ← hhh]
        obtain ⟨hk2, e⟩ := List.getElem?_eq_some_iff.1 hx
        rw [List.drop_eq_getElem_cons hk2, e, List.all_cons])
      rw [hhh] at HHA
      clear hhh
      obtain ⟨pk, pv, pg⟩ := p
      simp only at HHA
      go_upto_region 20 with (fail)
      clear c0 c1 c2 c3 c4 q0 q1 q2 q3 q4 q5 q6
      refine tillK_begin (S := fun w' => PB x s A ⟨kd, ⟨ta, ti⟩, key, P, cm⟩ (some ⟨b5, off5, none⟩) c u w' ∧ Below W.heap.size W w') (k := 11) (by kernel_rfl) ?_
      have hbk : Below wr.heap.size wr wr.drew := (Below.refl _ _).drew
      have S0 : PB x s A ⟨kd, ⟨ta, ti⟩, key, P, cm⟩ (some ⟨b5, off5, none⟩) c u wr.drew ∧ Below W.heap.size W wr.drew := ⟨HPk.out.later hbk, HBk.out.trans (hbk.mono HBk.out.size)⟩
      refine tillK_take (i := 0) (v := .pointer (some ⟨x, 1, none⟩)) rfl (by kernel_rfl) (by kernel_rfl) (by kernel_rfl) (by kernel_rfl) (by kernel_rfl) (by kernel_rfl) (fun _ _ _ h => h) (Or.inl ⟨by rfl, ?hyt_0⟩) (by assumption) ?restt_0
      case hyt_0 =>
        rintro w' ⟨⟨hb, ho, hm'⟩, hbw⟩
        obtain ⟨_, c0, c1, c2, c3, c4⟩ := hb
        obtain ⟨_, q0, q1, q2, q3, q4, q5, q6⟩ := ho
        simp only at q0 q1 q2 q3 q4 q5
        go_simp
      try simp only [Act.put, List.setIfInBounds_toArray]
      refine tillK_take (i := 1) (v := .slice A.ha s.holds.length A.hc) rfl (by kernel_rfl) (by kernel_rfl) (by kernel_rfl) (by kernel_rfl) (by kernel_rfl) (by kernel_rfl) (fun _ _ _ h => h) (Or.inl ⟨by rfl, ?hyt_1⟩) (by assumption) ?restt_1
      case hyt_1 =>
        rintro w' ⟨⟨hb, ho, hm'⟩, hbw⟩
        obtain ⟨_, c0, c1, c2, c3, c4⟩ := hb
        obtain ⟨_, q0, q1, q2, q3, q4, q5, q6⟩ := ho
        simp only at q0 q1 q2 q3 q4 q5
        go_simp
      try simp only [Act.put]
      refine tillK_take (i := 2) (v := .pointer (some ⟨x + 1, 1, none⟩)) rfl (by kernel_rfl) (by kernel_rfl) (by kernel_rfl) (by kernel_rfl) (by kernel_rfl) (by kernel_rfl) (fun _ _ _ h => h) (Or.inl ⟨by rfl, ?hyt_2⟩) (by assumption) ?restt_2
      case hyt_2 =>
        rintro w' ⟨⟨hb, ho, hm'⟩, hbw⟩
        obtain ⟨_, c0, c1, c2, c3, c4⟩ := hb
        obtain ⟨_, q0, q1, q2, q3, q4, q5, q6⟩ := ho
        simp only at q0 q1 q2 q3 q4 q5
        go_simp
      try simp only [Act.put]
      refine tillK_take (i := 3) (v := .agg #[.int .u64 (ta : Nat), .int .u64 (ti : Nat)]) rfl (by kernel_rfl) (by kernel_rfl) (by kernel_rfl) (by kernel_rfl) (by kernel_rfl) (by kernel_rfl) (fun _ _ _ h => h) (Or.inl ⟨by rfl, ?hyt_3⟩) (by assumption) ?restt_3
      case hyt_3 =>
        rintro w' ⟨⟨hb, ho, hm'⟩, hbw⟩
        obtain ⟨_, c0, c1, c2, c3, c4⟩ := hb
        obtain ⟨_, q0, q1, q2, q3, q4, q5, q6⟩ := ho
        simp only at q0 q1 q2 q3 q4 q5
        go_simp
      try simp only [Act.put]
      refine tillK_take (i := 4) (v := .pointer (some ⟨x + 1, 4, none⟩)) rfl (by kernel_rfl) (by kernel_rfl) (by kernel_rfl) (by kernel_rfl) (by kernel_rfl) (by kernel_rfl) (fun _ _ _ h => h) (Or.inl ⟨by rfl, ?hyt_4⟩) (by assumption) ?restt_4
      case hyt_4 =>
        rintro w' ⟨⟨hb, ho, hm'⟩, hbw⟩
        obtain ⟨_, c0, c1, c2, c3, c4⟩ := hb
        obtain ⟨_, q0, q1, q2, q3, q4, q5, q6⟩ := ho
        simp only at q0 q1 q2 q3 q4 q5
        go_simp
      try simp only [Act.put]
      refine tillK_take (i := 5) (v := .slice (some ⟨b5, off5, none⟩) P.length c) rfl (by kernel_rfl) (by kernel_rfl) (by kernel_rfl) (by kernel_rfl) (by kernel_rfl) (by kernel_rfl) (fun _ _ _ h => h) (Or.inl ⟨by rfl, ?hyt_5⟩) (by assumption) ?restt_5
      case hyt_5 =>
        rintro w' ⟨⟨hb, ho, hm'⟩, hbw⟩
        obtain ⟨_, c0, c1, c2, c3, c4⟩ := hb
        obtain ⟨_, q0, q1, q2, q3, q4, q5, q6⟩ := ho
        simp only at q0 q1 q2 q3 q4 q5
        go_simp
      try simp only [Act.put]
      refine tillK_take (i := 6) (v := .int .i64 k) rfl (by kernel_rfl) (by kernel_rfl) (by kernel_rfl) (by kernel_rfl) (by kernel_rfl) (by kernel_rfl) (fun _ _ _ h => h) (Or.inl ⟨by rfl, ?hyt_6⟩) (by assumption) ?restt_6
      case hyt_6 =>
        rintro w' ⟨⟨hb, ho, hm'⟩, hbw⟩
        obtain ⟨_, c0, c1, c2, c3, c4⟩ := hb
        obtain ⟨_, q0, q1, q2, q3, q4, q5, q6⟩ := ho
        simp only at q0 q1 q2 q3 q4 q5
        go_simp
      try simp only [Act.put]
      refine tillK_take (i := 7) (v := .pointer (some ⟨b5, off5 + k * 3, none⟩)) rfl (by kernel_rfl) (by kernel_rfl) (by kernel_rfl) (by kernel_rfl) (by kernel_rfl) (by kernel_rfl) (fun _ _ _ h => h) (Or.inl ⟨by rfl, ?hyt_7⟩) (by assumption) ?restt_7
      case hyt_7 =>
        rintro w' ⟨⟨hb, ho, hm'⟩, hbw⟩
        obtain ⟨_, c0, c1, c2, c3, c4⟩ := hb
        obtain ⟨_, q0, q1, q2, q3, q4, q5, q6⟩ := ho
        simp only at q0 q1 q2 q3 q4 q5
        go_simp
      try simp only [Act.put]
      refine tillK_take (i := 8) (v := .pointer (some ⟨b5, off5 + k * 3, none⟩)) rfl (by kernel_rfl) (by kernel_rfl) (by kernel_rfl) (by kernel_rfl) (by kernel_rfl) (by kernel_rfl) (fun _ _ _ h => h) (Or.inl ⟨by rfl, ?hyt_8⟩) (by assumption) ?restt_8
      case hyt_8 =>
        rintro w' ⟨⟨hb, ho, hm'⟩, hbw⟩
        obtain ⟨_, c0, c1, c2, c3, c4⟩ := hb
        obtain ⟨_, q0, q1, q2, q3, q4, q5, q6⟩ := ho
        simp only at q0 q1 q2 q3 q4 q5
        go_simp
      try simp only [Act.put]
      refine tillK_take (i := 9) (v := .string pk) rfl (by kernel_rfl) (by kernel_rfl) (by kernel_rfl) (by kernel_rfl) (by kernel_rfl) (by kernel_rfl) (fun _ _ _ h => h) (Or.inl ⟨by rfl, ?hyt_9⟩) (by assumption) ?restt_9
      case hyt_9 =>
        rintro w' ⟨⟨hb, ho, hm'⟩, hbw⟩
        obtain ⟨_, c0, c1, c2, c3, c4⟩ := hb
        obtain ⟨_, q0, q1, q2, q3, q4, q5, q6⟩ := ho
        simp only at q0 q1 q2 q3 q4 q5
        obtain ⟨b6, off6, e6, _, p0, p1, p2⟩ := Pus.cells (HPU.out w' hbw) hx
        cases e6
        simp only at p0 p1 p2
        go_simp
      try simp only [Act.put]
      refine tillK_step (i := 10) (by kernel_rfl) rfl (by rfl) ?_
      intro Kt_10 hKt_10
      have HKt_10 := Lib.hid hKt_10
      clear hKt_10
      go_wp2_with fail
      refine (HHA.out _ hbk).mono ?_
      rintro e w5 ⟨rfl, hb5⟩
      have hbk5 := hbk.trans hb5
      have HP5 := Lib.hid (HPk.out.later hbk5)
      have HR5 := Lib.hid (HRk.out.later HRk.out.size hbk5)
      have HB5 := Lib.hid (HBW.out.trans (hbk5.mono HBW.out.size))
      have S5 : PB x s A ⟨kd, ⟨ta, ti⟩, key, P, cm⟩ (some ⟨b5, off5, none⟩) c u w5 ∧ Below W.heap.size W w5 := ⟨HP5.out, HBk.out.trans (hbk5.mono HBk.out.size)⟩
      clear hb5 hbk5 hbk S0
      dsimp only
      refine HKt_10.out.out _ _ (fun _ => S5) ?_
      refine tillK_step (i := 11) (by kernel_rfl) rfl (by rfl) ?_
      intro Kt_11 hKt_11
      have HKt_11 := Lib.hid hKt_11
      clear hKt_11
      go_wp2_with fail
      refine HKt_11.out.out _ _ (fun h => by simp at h) ?_
      refine tillK_done (by kernel_rfl) ?_
      clear S5
      cases hh
      case false =>
        have HE := Lib.hid (show r = (s, ansE 9) from by
          rw [HRE2.out, if_pos (by rw [HDA2.out]; rfl)])
        go_upto_region 22 with (fail)
        refine tillK_begin (S := PB x s A ⟨kd, ⟨ta, ti⟩, key, P, cm⟩ (some ⟨b5, off5, none⟩) c u) (k := 3) (by kernel_rfl) ?_
        have S0 : PB x s A ⟨kd, ⟨ta, ti⟩, key, P, cm⟩ (some ⟨b5, off5, none⟩) c u w5.drew := HP5.out.later (Below.refl _ _).drew
        have HRe := Lib.hid (HR5.out.later HR5.out.size (Below.refl _ _).drew)
        refine tillK_take (i := 0) (v := .agg #[.slice A.ra s.rows.length A.rc, .slice A.ha s.holds.length A.hc, .slice A.oa s.opn.length A.oc, .slice A.da s.done.length A.dc, .int .u64 (s.ver : Nat)]) rfl (by kernel_rfl) (by kernel_rfl) (by kernel_rfl) (by kernel_rfl) (by kernel_rfl) (by kernel_rfl) (fun _ _ _ h => h) (Or.inl ⟨by rfl, ?hye_0⟩) (by assumption) ?reste_0
        case hye_0 =>
          rintro w' ⟨hb, ho, hm⟩
          obtain ⟨_, c0, c1, c2, c3, c4⟩ := hb
          obtain ⟨_, q0, q1, q2, q3, q4, q5, q6⟩ := ho
          simp only at q0 q1 q2 q3 q4 q5
          go_simp
        try simp only [Act.put, List.setIfInBounds_toArray]
        refine tillK_step (i := 1) (by kernel_rfl) rfl (by rfl) ?_
        intro Ke_1 hKe_1
        have HKe_1 := Lib.hid hKe_1
        clear hKe_1
        go_wp2_with fail
        refine (rNo_any 9 _).mono ?_
        rintro e w7 ⟨rfl, hb7⟩
        have HP7 := Lib.hid (S0.later hb7)
        have HR7 := Lib.hid (HRe.out.later HRe.out.size hb7)
        have HFI := Lib.hid (OrB.mk' (r := (s, ansE 9)) HR7.out HP7.out.m)
        have HX4 := Lib.hid (fun v0 v1 v2 v3 v4 (e : sK = [kdV v0, kdV v1, kdV v2, kdV v3, kdV v4]) => HP7.out.set4 HR7.out.s (by omega) v0 v1 v2 v3 v4 e)
        have e0 := HR7.out.s.cv 0 (by decide)
        have e1 := HR7.out.s.cv 1 (by decide)
        have e2 := HR7.out.s.cv 2 (by decide)
        have e3 := HR7.out.s.cv 3 (by decide)
        have e4 := HR7.out.s.cv 4 (by decide)
        have g0 := HR7.out.a.cv 0 (by decide)
        have g1 := HR7.out.a.cv 1 (by decide)
        have g2 := HR7.out.a.cv 2 (by decide)
        have g3 := HR7.out.a.cv 3 (by decide)
        have g4 := HR7.out.a.cv 4 (by decide)
        have f4 := HR7.out.s.fz
        have f5 := HR7.out.a.fz
        clear hb7
        try dsimp only
        refine HKe_1.out.out _ _ (fun _ => HP7.out) ?_
        refine tillK_step (i := 2) (by kernel_rfl) rfl (by rfl) ?_
        intro Ke_2 hKe_2
        have HKe_2 := Lib.hid hKe_2
        clear hKe_2
        go_wp2_with fail
        refine HKe_2.out.out _ _ (fun _ => HX4.out _ _ _ _ _ rfl) ?_
        refine tillK_step (i := 3) (by kernel_rfl) rfl (by rfl) ?_
        intro Ke_3 hKe_3
        have HKe_3 := Lib.hid hKe_3
        clear hKe_3
        go_wp2_with fail
        refine HKe_3.out.out _ _ (fun h => by simp at h) ?_
        refine tillK_done (by kernel_rfl) ?_
        clear S0
        go_wp2_with fail
        refine bodyPost_ret (v := .tuple #[shV s A, ansV (ansE 9)]) (by simp [results, Try.results23, go_sem, e0, e1, e2, e3, e4, g0, g1, g2, g3, g4, ansE]) rfl ?_
        rw [HE.out]
        exact HFI.out _ rfl
      have HT := Lib.hid (show (P.drop (k + 1)).all (fun p => hasH ⟨ta, ti⟩ p.key true s.holds) = al from by rw [HDA2.out, Bool.true_and])
      go_wp2_with fail
      go_roundw
      case rel => exact ⟨k + 1, by omega, by go_num, HT.out, HB5.out⟩
      case measure => simp [intOf]; omega
    · have i4 : ¬ (k : Int) < (P.length : Int) := by omega
      have hre := HRE2.out
      rw [if_neg (by rw [← HAK.out, List.drop_eq_nil_of_le (by omega)]; simp)] at hre
      obtain ⟨kn, hkn⟩ : ∃ n, keysN s P = n := ⟨_, rfl⟩
      rw [hkn] at hre
      have HRE3 := Lib.hid hre
      have HKY := Lib.hid (rKeys_any s A P.length c a P rfl hml (by have := HZ.out.rlen; omega) hol (fun x hx => by have := (HZ.out.opn x hx).2.1; omega) (by
        have h8 := (fits_small HFX.out).1
        have hk := HZ.out.keys
        have h9 := putK_len P
        simp only [allK, List.length_append, putK, List.filter_nil, List.map_nil, List.length_nil] at hk ⊢
        simp only [putK] at h9
        omega) wr HPk.out.m (HPU.out wr HBk.out))
      rw [hkn] at HKY
      clear hre hkn
      go_wp2_with fail
      refine HKY.out.mono ?_
      rintro e w6 ⟨rfl, hb6⟩
      have HP6 := Lib.hid (HPk.out.later hb6)
      have HR6 := Lib.hid (HRk.out.later HRk.out.size hb6)
      have HB6 := Lib.hid (HBk.out.trans (hb6.mono HBk.out.size))
      clear hb6 c0 c1 c2 c3 c4 q0 q1 q2 q3 q4 q5 q6
      by_cases h32 : 32 < kn
      · have HE := Lib.hid (HRE3.out.trans (if_pos h32))
        have i7 : (32 : Int) < (kn : Int) := by omega
        clear h32
        go_upto_region 24 with (fail)
        refine tillK_begin (S := PB x s A ⟨kd, ⟨ta, ti⟩, key, P, cm⟩ a c u) (k := 3) (by kernel_rfl) ?_
        have S0 : PB x s A ⟨kd, ⟨ta, ti⟩, key, P, cm⟩ a c u w6.drew := HP6.out.later (Below.refl _ _).drew
        have HRe := Lib.hid (HR6.out.later HR6.out.size (Below.refl _ _).drew)
        refine tillK_take (i := 0) (v := .agg #[.slice A.ra s.rows.length A.rc, .slice A.ha s.holds.length A.hc, .slice A.oa s.opn.length A.oc, .slice A.da s.done.length A.dc, .int .u64 (s.ver : Nat)]) rfl (by kernel_rfl) (by kernel_rfl) (by kernel_rfl) (by kernel_rfl) (by kernel_rfl) (by kernel_rfl) (fun _ _ _ h => h) (Or.inl ⟨by rfl, ?hyf_0⟩) (by assumption) ?restf_0
        case hyf_0 =>
          rintro w' ⟨hb, ho, hm⟩
          obtain ⟨_, c0, c1, c2, c3, c4⟩ := hb
          obtain ⟨_, q0, q1, q2, q3, q4, q5, q6⟩ := ho
          simp only at q0 q1 q2 q3 q4 q5
          go_simp
        try simp only [Act.put, List.setIfInBounds_toArray]
        refine tillK_step (i := 1) (by kernel_rfl) rfl (by rfl) ?_
        intro Kf_1 hKf_1
        have HKf_1 := Lib.hid hKf_1
        clear hKf_1
        go_wp2_with fail
        refine (rNo_any 5 _).mono ?_
        rintro e w7 ⟨rfl, hb7⟩
        have HP7 := Lib.hid (S0.later hb7)
        have HR7 := Lib.hid (HRe.out.later HRe.out.size hb7)
        have HFI := Lib.hid (OrB.mk' (r := (s, ansE 5)) HR7.out HP7.out.m)
        have HX4 := Lib.hid (fun v0 v1 v2 v3 v4 (e : sK = [kdV v0, kdV v1, kdV v2, kdV v3, kdV v4]) => HP7.out.set4 HR7.out.s (by omega) v0 v1 v2 v3 v4 e)
        have e0 := HR7.out.s.cv 0 (by decide)
        have e1 := HR7.out.s.cv 1 (by decide)
        have e2 := HR7.out.s.cv 2 (by decide)
        have e3 := HR7.out.s.cv 3 (by decide)
        have e4 := HR7.out.s.cv 4 (by decide)
        have g0 := HR7.out.a.cv 0 (by decide)
        have g1 := HR7.out.a.cv 1 (by decide)
        have g2 := HR7.out.a.cv 2 (by decide)
        have g3 := HR7.out.a.cv 3 (by decide)
        have g4 := HR7.out.a.cv 4 (by decide)
        have f4 := HR7.out.s.fz
        have f5 := HR7.out.a.fz
        clear hb7
        try dsimp only
        refine HKf_1.out.out _ _ (fun _ => HP7.out) ?_
        refine tillK_step (i := 2) (by kernel_rfl) rfl (by rfl) ?_
        intro Kf_2 hKf_2
        have HKf_2 := Lib.hid hKf_2
        clear hKf_2
        go_wp2_with fail
        refine HKf_2.out.out _ _ (fun _ => HX4.out _ _ _ _ _ rfl) ?_
        refine tillK_step (i := 3) (by kernel_rfl) rfl (by rfl) ?_
        intro Kf_3 hKf_3
        have HKf_3 := Lib.hid hKf_3
        clear hKf_3
        go_wp2_with fail
        refine HKf_3.out.out _ _ (fun h => by simp at h) ?_
        refine tillK_done (by kernel_rfl) ?_
        clear S0
        go_wp2_with fail
        refine bodyPost_ret (v := .tuple #[shV s A, ansV (ansE 5)]) (by simp [results, Try.results23, go_sem, e0, e1, e2, e3, e4, g0, g1, g2, g3, g4, ansE]) rfl ?_
        rw [HE.out]
        exact HFI.out _ rfl
      have i7 : ¬ (32 : Int) < (kn : Int) := by omega
      have hre := HRE3.out.trans (if_neg h32)
      have hy := HHY.out
      have hjm := (List.getElem?_eq_some_iff.1 hy).1
      have hom := HP6.out.m.olen
      obtain ⟨v7, w7, hr7, hc7, hb7, _⟩ := app_new sopT w6 24 ⟨b, off, none⟩ s.opn.length A.oc A.om hom (HOA2.out ▸ HP6.out.m.opn) (by have := HZ.out.olen; omega)
      obtain ⟨g, c7, e7, hBg, hcl, hcm, hd⟩ := Hd.of sopT hc7 (by omega)
      rw [hom] at e7 hcl
      subst e7
      obtain ⟨w8, hw8⟩ : ∃ V, w7.setCell ⟨g, j * 5 + 2, none⟩ (.bool true) = V := ⟨_, rfl⟩
      obtain ⟨w9, hw9⟩ : ∃ V, w8.setCell ⟨g, j * 5 + 4, none⟩ (.slice a P.length c) = V := ⟨_, rfl⟩
      have p1 := hd.put1 sopT (o := 2) (y := ⟨⟨⟨ya, yi⟩, true, false, yp⟩, pa, pc⟩) (u := .bool true) hy rfl (fun t ht => by rcases t with _ | _ | _ | _ | _ | t <;> first | rfl | exact absurd rfl ht)
      rw [hw8] at p1
      have p2 := p1.put1 sopT (o := 4) (i := j) (x := ⟨⟨⟨ya, yi⟩, true, false, yp⟩, pa, pc⟩) (y := ⟨⟨⟨ya, yi⟩, true, false, P⟩, a, c⟩) (u := .slice a P.length c) (by rw [List.getElem?_set, if_pos rfl, if_pos hjm]) rfl (fun t ht => by rcases t with _ | _ | _ | _ | _ | t <;> first | rfl | exact absurd rfl ht)
      rw [hw9, List.set_set] at p2
      obtain ⟨b2, o2, e2, _, _, _, r2, _, _⟩ := Sop.cells hd.row hy
      obtain ⟨b3, o3, e3, _, _, _, _, _, r4⟩ := Sop.cells p1.row (k := j) (y := ⟨⟨⟨ya, yi⟩, true, false, yp⟩, pa, pc⟩) (by rw [List.getElem?_set, if_pos rfl, if_pos hjm])
      cases e2
      cases e3
      simp only [Nat.zero_add] at r2 r4
      have z2 := hd.fz (j * 5 + 2)
      have z4 := p1.fz (j * 5 + 4)
      have hb8 : Below w6.heap.size w6 w8 := hw8 ▸ hb7.setCell hBg _
      have hb9 : Below w6.heap.size w6 w9 := hw9 ▸ hb8.setCell hBg _
      have HP8 := Lib.hid (HP6.out.later hb8)
      have HP9 := HP6.out.later hb9
      have hpl : (prpS ⟨ta, ti⟩ P s.opn).length = s.opn.length := by rw [← HPRP.out, List.length_set]
      obtain ⟨k9, d0, d1, d2, d3, d4⟩ := HP9.bs
      have hm9 : ShM w9 ⟨s.rows, s.holds, prpS ⟨ta, ti⟩ P s.opn, s.done, s.ver⟩ ⟨A.ra, A.rc, A.ha, A.hc, some ⟨g, 0, none⟩, c7, A.om.set j ⟨⟨⟨ya, yi⟩, true, false, P⟩, a, c⟩, A.da, A.dc⟩ := by
        have hm := HP9.m
        refine ⟨hm.rows, hm.holds, ?_, p2.row, fun z hz => ?_, hm.done, ⟨hm.cp.r, hm.cp.h, ?_, hm.cp.d, fun z hz => ?_⟩⟩
        · rw [List.map_set, hm.om]; exact HPRP.out
        · rcases List.mem_or_eq_of_mem_set hz with h | h
          · exact hm.puts z h
          · rw [h]; exact HPU.out w9 (HB6.out.trans (hb9.mono HB6.out.size))
        · simp only [hpl]; exact ⟨hcl, hcm⟩
        · rcases List.mem_or_eq_of_mem_set hz with h | h
          · exact hm.cp.p z h
          · rw [h]; exact HCP.out
      obtain ⟨w10, hw10⟩ : ∃ V, w9.setCell ⟨x, 2, none⟩ (.slice (some ⟨g, 0, none⟩) s.opn.length c7) = V := ⟨_, rfl⟩
      have hg10 : w9.grownBy w10 (some x) := hw10 ▸ sc_one _ _ _ _
      have hx6 := HBX.out
      have hbs10 : BS w10 x ⟨s.rows, s.holds, prpS ⟨ta, ti⟩ P s.opn, s.done, s.ver⟩ ⟨A.ra, A.rc, A.ha, A.hc, some ⟨g, 0, none⟩, c7, A.om.set j ⟨⟨⟨ya, yi⟩, true, false, P⟩, a, c⟩, A.da, A.dc⟩ := by
        rw [← hw10]
        exact ⟨k9.set (i := 2) (v := .slice (some ⟨g, 0, none⟩) s.opn.length c7) rfl, by simp [go_sem, d0], by simp [go_sem, d1], by rw [hpl]; simp [go_sem, d2], by simp [go_sem, d3], by simp [go_sem, d4]⟩
      have hP10 : PB x ⟨s.rows, s.holds, prpS ⟨ta, ti⟩ P s.opn, s.done, s.ver⟩ ⟨A.ra, A.rc, A.ha, A.hc, some ⟨g, 0, none⟩, c7, A.om.set j ⟨⟨⟨ya, yi⟩, true, false, P⟩, a, c⟩, A.da, A.dc⟩ ⟨kd, ⟨ta, ti⟩, key, P, cm⟩ a c u w10 := ⟨hbs10, HP9.ob.grown hg10 (by omega), hw10 ▸ hm9.set k9 fits_s 2 _⟩
      have HR10 := Lib.hid ((HR6.out.later HR6.out.size hb9).grown hg10 hx6 (by omega) (by omega))
      obtain ⟨s7, hs7⟩ : ∃ z : Sh, (⟨s.rows, s.holds, prpS ⟨ta, ti⟩ P s.opn, s.done, s.ver⟩ : Sh) = z := ⟨_, rfl⟩
      obtain ⟨A7, hA7⟩ : ∃ z : Sad, (⟨A.ra, A.rc, A.ha, A.hc, some ⟨g, 0, none⟩, c7, A.om.set j ⟨⟨⟨ya, yi⟩, true, false, P⟩, a, c⟩, A.da, A.dc⟩ : Sad) = z := ⟨_, rfl⟩
      rw [hs7, hA7] at hP10
      have HE7 := Lib.hid (show r = (s7, ansE 0) from by rw [← hs7]; exact hre)
      have HP10 := Lib.hid hP10
      have HW8 := Lib.hid hw8
      have HW9 := Lib.hid hw9
      have HW10 := Lib.hid hw10
      have HR7 := Lib.hid hr7
      have HD9 := Lib.hid (And.intro d2 k9.fz)
      obtain ⟨_, c0, c1, c2, c3, c4⟩ := HP6.out.bs
      rw [HOA2.out] at c2
      have c2a := (((Below.refl w6.heap.size w6).alloc (Nat.le_refl _) (.cells #[] 48)).cell (p := ⟨x, 2, none⟩) HP6.out.bs.kb.lt).trans c2
      clear hre hy hjm hom hr7 hc7 hb7 hBg hcl hcm hd hw8 hw9 p1 p2 hb8 hb9 HP9 hpl k9 d0 d1 d2 d3 d4 hm9 hw10 hg10 hx6 hbs10 hP10 hs7 hA7 h32
      go_upto_region 25 with (fail)
      go_cut [12] (fun lv wx => lv = .slice (some ⟨g, 0, none⟩) s.opn.length c7 ∧ wx = w7)
      case first =>
        go_wp2_with (at_builtin; refine Lib.wpList_append_run _ rfl _ _ 24 24 rfl _ _ rfl rfl _ _ HR7.out ?_)
        go_meet
        exact ⟨rfl, rfl⟩
      case rest =>
      obtain ⟨rfl, hwx⟩ := hcut
      have hwx := hwx.symm
      subst hwx
      clear c0 c1 c2 c2a c3 c4
      go_upto_region 27 with (fail)
      rw [HW8.out]
      clear r2 z2
      obtain ⟨_, q0, q1, q2, q3, q4, q5, q6⟩ := HP8.out.ob
      simp only at q0 q1 q2 q3 q4 q5
      go_upto_region 28 with (fail)
      rw [HW9.out]
      clear q0 q1 q2 q3 q4 q5 q6 r4 z4
      obtain ⟨d2, f9⟩ := HD9.out
      go_upto_region 29 with (fail)
      rw [HW10.out]
      clear d2 f9
      refine tillK_begin (S := PB x s7 A7 ⟨kd, ⟨ta, ti⟩, key, P, cm⟩ a c u) (k := 3) (by kernel_rfl) ?_
      have S0 : PB x s7 A7 ⟨kd, ⟨ta, ti⟩, key, P, cm⟩ a c u w10.drew := HP10.out.later (Below.refl _ _).drew
      have HRe := Lib.hid (HR10.out.later HR10.out.size (Below.refl _ _).drew)
      refine tillK_take (i := 0) (v := .agg #[.slice A7.ra s7.rows.length A7.rc, .slice A7.ha s7.holds.length A7.hc, .slice A7.oa s7.opn.length A7.oc, .slice A7.da s7.done.length A7.dc, .int .u64 (s7.ver : Nat)]) rfl (by kernel_rfl) (by kernel_rfl) (by kernel_rfl) (by kernel_rfl) (by kernel_rfl) (by kernel_rfl) (fun _ _ _ h => h) (Or.inl ⟨by rfl, ?hyg_0⟩) (by assumption) ?restg_0
      case hyg_0 =>
        rintro w' ⟨hb, ho, hm⟩
        obtain ⟨_, c0, c1, c2, c3, c4⟩ := hb
        obtain ⟨_, q0, q1, q2, q3, q4, q5, q6⟩ := ho
        simp only at q0 q1 q2 q3 q4 q5
        go_simp
      try simp only [Act.put, List.setIfInBounds_toArray]
      refine tillK_step (i := 1) (by kernel_rfl) rfl (by rfl) ?_
      intro Kg_1 hKg_1
      have HKg_1 := Lib.hid hKg_1
      clear hKg_1
      go_wp2_with fail
      refine (rNo_any 0 _).mono ?_
      rintro e w7 ⟨rfl, hb7⟩
      have HP7 := Lib.hid (S0.later hb7)
      have HR7 := Lib.hid (HRe.out.later HRe.out.size hb7)
      have HFI := Lib.hid (OrB.mk' (r := (s7, ansE 0)) HR7.out HP7.out.m)
      have HX4 := Lib.hid (fun v0 v1 v2 v3 v4 (e : sK = [kdV v0, kdV v1, kdV v2, kdV v3, kdV v4]) => HP7.out.set4 HR7.out.s (by omega) v0 v1 v2 v3 v4 e)
      have e0 := HR7.out.s.cv 0 (by decide)
      have e1 := HR7.out.s.cv 1 (by decide)
      have e2 := HR7.out.s.cv 2 (by decide)
      have e3 := HR7.out.s.cv 3 (by decide)
      have e4 := HR7.out.s.cv 4 (by decide)
      have g0 := HR7.out.a.cv 0 (by decide)
      have g1 := HR7.out.a.cv 1 (by decide)
      have g2 := HR7.out.a.cv 2 (by decide)
      have g3 := HR7.out.a.cv 3 (by decide)
      have g4 := HR7.out.a.cv 4 (by decide)
      have f4 := HR7.out.s.fz
      have f5 := HR7.out.a.fz
      clear hb7
      try dsimp only
      refine HKg_1.out.out _ _ (fun _ => HP7.out) ?_
      refine tillK_step (i := 2) (by kernel_rfl) rfl (by rfl) ?_
      intro Kg_2 hKg_2
      have HKg_2 := Lib.hid hKg_2
      clear hKg_2
      go_wp2_with fail
      refine HKg_2.out.out _ _ (fun _ => HX4.out _ _ _ _ _ rfl) ?_
      refine tillK_step (i := 3) (by kernel_rfl) rfl (by rfl) ?_
      intro Kg_3 hKg_3
      have HKg_3 := Lib.hid hKg_3
      clear hKg_3
      go_wp2_with fail
      refine HKg_3.out.out _ _ (fun h => by simp at h) ?_
      refine tillK_done (by kernel_rfl) ?_
      clear S0
      go_wp2_with fail
      refine bodyPost_ret (v := .tuple #[shV s7 A7, ansV (ansE 0)]) (by simp [results, Try.results23, go_sem, e0, e1, e2, e3, e4, g0, g1, g2, g3, g4, ansE]) rfl ?_
      rw [HE7.out]
      exact HFI.out _ rfl
end Go.Proofs.Ythgnecggdlamfaa
