/- The document's prepares: one that is over, or not known. -/
import Derived.Test.YthgnecggdlamfaaEr
import Derived.Test.YthgnecggdlamfaaTn
import Derived.Test.YthgnecggdlamfaaTi
import Derived.Test.YthgnecggdlamfaaYs
import Derived.Test.YthgnecggdlamfaaYq
import Derived.Test.YthgnecggdlamfaaEk
import Derived.Test.YthgnecggdlamfaaEl
import Derived.Test.YthgnecggdlamfaaEm
import Derived.Test.YthgnecggdlamfaaEp
import Derived.Test.YthgnecggdlamfaaEs
import Derived.Test.YthgnecggdlamfaaEt
namespace Go.Proofs.Ythgnecggdlamfaa
open Go.RowKit

set_option maxRecDepth 100000 in
set_option maxHeartbeats 8000000 in
theorem prepOver_any (B : Nat) (s : Sh) (A : Sad) (o : Odr) (a : Option Addr) (c : Nat) (q : Option Addr) (qn qc : Nat) (w : World) (hM : ShM w s A) (hB : B ≤ w.heap.size) (zs : SzS s) (zo : SzO o) (hov : ∃ j y, oixS o.t 0 s.done = some j ∧ s.done[j]? = some y ∧ ovrS o.t s.done = some y.cm) :
    Calls Try.prog 23 #[shV s A, odrV o a c (.slice q qn qc)] w (OrB B w (prepS s o)) := by
  obtain ⟨u, hu⟩ : ∃ u, Value.slice q qn qc = u := ⟨_, rfl⟩
  rw [hu]
  clear hu
  obtain ⟨W, hW⟩ : ∃ W, doW w s A o a c u = W := ⟨_, rfl⟩
  obtain ⟨x, hx⟩ : ∃ x, w.heap.size = x := ⟨_, rfl⟩
  obtain ⟨hS, hO, hR, hBW, hsz⟩ := four hW hx
  have hol : s.opn.length ≤ 140737488351232 := by have := zs.olen; omega
  have hdl : s.done.length ≤ 140737488351232 := by have := zs.dlen; omega
  have HP := Lib.hid (show PB x s A o a c u W from ⟨hS, hO, hM.later hBW⟩)
  have HR := Lib.hid (show RsC B w W (x + 1 + 1) (x + 1 + 1 + 1) from ⟨hR.s, hR.a, Nat.le_trans hB hR.l4, hR.l5, hR.b.mono hB⟩)
  have HBX := Lib.hid (show B ≤ x from hx ▸ hB)
  have HDA := Lib.hid (fun w' (h : Below W.heap.size W w') => rOver_any s A o.t hdl w' ((hM.later hBW).later h))
  have HOA := Lib.hid (fun w' (h : Below W.heap.size W w') => rKnown_any s A o.t hol w' ((hM.later hBW).later h))
  have HZ := Lib.hid zs
  have HZO := Lib.hid zo
  have HW := Lib.hid hW
  have HX := Lib.hid hx
  have HSZ := Lib.hid hsz
  obtain ⟨kd, ⟨ta, ti⟩, key, P, cm⟩ := o
  obtain ⟨r, hr⟩ : ∃ r, prepS s ⟨kd, ⟨ta, ti⟩, key, P, cm⟩ = r := ⟨_, rfl⟩
  rw [hr]
  have HRR := Lib.hid hr
  obtain ⟨_, q0, q1, q2, q3, q4, q5, q6⟩ := hO
  obtain ⟨_, c0, c1, c2, c3, c4⟩ := hS
  simp only at q0 q1 q2 q3 q4 q5 HDA HOA
  simp only at hov
  clear hM hB zs zo hR hBW hsz hW hx hr
  go_enter Try.func23, Try.ntmps23
  go_wp2_with fail
  have hWX := HW.out
  simp only [doW] at hWX
  rw [hWX, HX.out]
  clear hWX
  go_wp2_with fail
  refine (HDA.out W (Below.refl _ _)).mono ?_
  rintro e w1 ⟨rfl, hb1⟩
  have HB1 := Lib.hid hb1
  have HP1 := Lib.hid (HP.out.later hb1)
  have HR1 := Lib.hid (HR.out.later HR.out.size hb1)
  clear hb1 c0 c1 c2 c3 c4 q0 q1 q2 q3 q4 q5 q6
  obtain ⟨_, c0, c1, c2, c3, c4⟩ := HP1.out.bs
  obtain ⟨_, q0, q1, q2, q3, q4, q5, q6⟩ := HP1.out.ob
  simp only at q0 q1 q2 q3 q4 q5
  go_wp2_with fail
  refine (HOA.out w1 HB1.out).mono ?_
  rintro e w2 ⟨rfl, hb2⟩
  have HB2 := Lib.hid (HB1.out.trans (hb2.mono HB1.out.size))
  have HP2 := Lib.hid (HP1.out.later hb2)
  have HR2 := Lib.hid (HR1.out.later HR1.out.size hb2)
  clear hb2 c0 c1 c2 c3 c4 q0 q1 q2 q3 q4 q5 q6
  obtain ⟨j, y, h3, hx, h5⟩ := hov
  rw [h3]
  obtain ⟨kk, hkk⟩ : ∃ k, kixS ⟨ta, ti⟩ 0 s.opn = k := ⟨_, rfl⟩
  rw [hkk]
  have hr1 := HRR.out.symm.trans (prep_over h5)
  have hjl := (List.getElem?_eq_some_iff.1 hx).1
  obtain ⟨b, off, hda, _, p0, p1, p2⟩ := Sdn.cells HP2.out.m.done hx
  have i0 : (0 : Int) ≤ (j : Int) := by omega
  have i1 : (j : Int) < (s.done.length : Int) := by omega
  have gI : ixI (some j) = (j : Int) := rfl
  rw [gI]
  obtain ⟨⟨xa, xi⟩, xc⟩ := y
  clear gI h3 h5 hjl hkk
  have HE := Lib.hid hr1
  clear hr1 p0 p1 p2
  obtain ⟨_, c0, c1, c2, c3, c4⟩ := HP2.out.bs
  obtain ⟨_, q0, q1, q2, q3, q4, q5, q6⟩ := HP2.out.ob
  simp only at q0 q1 q2 q3 q4 q5
  rw [hda] at c3
  go_upto_region 4 with (fail)
  refine tillK_begin (S := PB x s A ⟨kd, ⟨ta, ti⟩, key, P, cm⟩ a c u) (k := 9) (by kernel_rfl) ?_
  have S0 : PB x s A ⟨kd, ⟨ta, ti⟩, key, P, cm⟩ a c u w2.drew := HP2.out.later (Below.refl _ _).drew
  have HRe := Lib.hid (HR2.out.later HR2.out.size (Below.refl _ _).drew)
  have HFI := Lib.hid (OrB.mk' (r := (s, ansC 13 xc)) HR2.out HP2.out.m)
  have HX4 := Lib.hid (fun v0 v1 v2 v3 v4 (e : sK = [kdV v0, kdV v1, kdV v2, kdV v3, kdV v4]) => (HP2.out.set4 HR2.out.s (by omega) v0 v1 v2 v3 v4 e).later (Below.refl _ _).drew)
  refine tillK_take (i := 0) (v := .agg #[.slice A.ra s.rows.length A.rc, .slice A.ha s.holds.length A.hc, .slice A.oa s.opn.length A.oc, .slice (some ⟨b, off, none⟩) s.done.length A.dc, .int .u64 (s.ver : Nat)]) rfl (by kernel_rfl) (by kernel_rfl) (by kernel_rfl) (by kernel_rfl) (by kernel_rfl) (by kernel_rfl) (fun _ _ _ h => h) (Or.inl ⟨by rfl, ?hya_0⟩) (by assumption) ?resta_0
  case hya_0 =>
    rintro w' ⟨hb, ho, hm⟩
    obtain ⟨_, c0, c1, c2, c3, c4⟩ := hb
    obtain ⟨_, q0, q1, q2, q3, q4, q5, q6⟩ := ho
    rw [hda] at c3
    simp only at q0 q1 q2 q3 q4 q5
    go_simp
  try simp only [Act.put, List.setIfInBounds_toArray]
  refine tillK_take (i := 1) (v := .pointer (some ⟨x, 3, none⟩)) rfl (by kernel_rfl) (by kernel_rfl) (by kernel_rfl) (by kernel_rfl) (by kernel_rfl) (by kernel_rfl) (fun _ _ _ h => h) (Or.inl ⟨by rfl, ?hya_1⟩) (by assumption) ?resta_1
  case hya_1 =>
    rintro w' ⟨hb, ho, hm⟩
    obtain ⟨_, c0, c1, c2, c3, c4⟩ := hb
    obtain ⟨_, q0, q1, q2, q3, q4, q5, q6⟩ := ho
    rw [hda] at c3
    simp only at q0 q1 q2 q3 q4 q5
    go_simp
  try simp only [Act.put]
  refine tillK_take (i := 2) (v := .slice (some ⟨b, off, none⟩) s.done.length A.dc) rfl (by kernel_rfl) (by kernel_rfl) (by kernel_rfl) (by kernel_rfl) (by kernel_rfl) (by kernel_rfl) (fun _ _ _ h => h) (Or.inl ⟨by rfl, ?hya_2⟩) (by assumption) ?resta_2
  case hya_2 =>
    rintro w' ⟨hb, ho, hm⟩
    obtain ⟨_, c0, c1, c2, c3, c4⟩ := hb
    obtain ⟨_, q0, q1, q2, q3, q4, q5, q6⟩ := ho
    rw [hda] at c3
    simp only at q0 q1 q2 q3 q4 q5
    go_simp
  try simp only [Act.put]
  refine tillK_take (i := 3) (v := .int .i64 j) rfl (by kernel_rfl) (by kernel_rfl) (by kernel_rfl) (by kernel_rfl) (by kernel_rfl) (by kernel_rfl) (fun _ _ _ h => h) (Or.inl ⟨by rfl, ?hya_3⟩) (by assumption) ?resta_3
  case hya_3 =>
    rintro w' ⟨hb, ho, hm⟩
    obtain ⟨_, c0, c1, c2, c3, c4⟩ := hb
    obtain ⟨_, q0, q1, q2, q3, q4, q5, q6⟩ := ho
    rw [hda] at c3
    simp only at q0 q1 q2 q3 q4 q5
    go_simp
  try simp only [Act.put]
  refine tillK_take (i := 4) (v := .pointer (some ⟨b, off + j * 3, none⟩)) rfl (by kernel_rfl) (by kernel_rfl) (by kernel_rfl) (by kernel_rfl) (by kernel_rfl) (by kernel_rfl) (fun _ _ _ h => h) (Or.inl ⟨by rfl, ?hya_4⟩) (by assumption) ?resta_4
  case hya_4 =>
    rintro w' ⟨hb, ho, hm⟩
    obtain ⟨_, c0, c1, c2, c3, c4⟩ := hb
    obtain ⟨_, q0, q1, q2, q3, q4, q5, q6⟩ := ho
    rw [hda] at c3
    simp only at q0 q1 q2 q3 q4 q5
    go_simp
  try simp only [Act.put]
  refine tillK_take (i := 5) (v := .pointer (some ⟨b, off + j * 3 + 2, none⟩)) rfl (by kernel_rfl) (by kernel_rfl) (by kernel_rfl) (by kernel_rfl) (by kernel_rfl) (by kernel_rfl) (fun _ _ _ h => h) (Or.inl ⟨by rfl, ?hya_5⟩) (by assumption) ?resta_5
  case hya_5 =>
    rintro w' ⟨hb, ho, hm⟩
    obtain ⟨_, c0, c1, c2, c3, c4⟩ := hb
    obtain ⟨_, q0, q1, q2, q3, q4, q5, q6⟩ := ho
    rw [hda] at c3
    simp only at q0 q1 q2 q3 q4 q5
    go_simp
  try simp only [Act.put]
  refine tillK_take (i := 6) (v := .bool xc) rfl (by kernel_rfl) (by kernel_rfl) (by kernel_rfl) (by kernel_rfl) (by kernel_rfl) (by kernel_rfl) (fun _ _ _ h => h) (Or.inl ⟨by rfl, ?hya_6⟩) (by assumption) ?resta_6
  case hya_6 =>
    rintro w' ⟨hb, ho, hm⟩
    obtain ⟨_, c0, c1, c2, c3, c4⟩ := hb
    obtain ⟨_, q0, q1, q2, q3, q4, q5, q6⟩ := ho
    rw [hda] at c3
    simp only at q0 q1 q2 q3 q4 q5
    obtain ⟨_, p0, p1, p2⟩ := dn_at hm hda hx
    simp only at p0 p1 p2
    clear hm
    go_simp
  try simp only [Act.put]
  refine tillK_take (i := 7) (v := .agg #[.int .i64 13, .string ⟨#[]⟩, .int .u64 0, .bool false, .bool xc]) rfl (by kernel_rfl) (by kernel_rfl) (by kernel_rfl) (by kernel_rfl) (by kernel_rfl) (by kernel_rfl) (fun _ _ _ h => h) (Or.inl ⟨by rfl, ?hya_7⟩) (by assumption) ?resta_7
  case hya_7 =>
    rintro w' ⟨hb, ho, hm⟩
    obtain ⟨_, c0, c1, c2, c3, c4⟩ := hb
    obtain ⟨_, q0, q1, q2, q3, q4, q5, q6⟩ := ho
    rw [hda] at c3
    simp only at q0 q1 q2 q3 q4 q5
    go_simp
  try simp only [Act.put]
  have e0 := HR2.out.s.cv 0 (by decide)
  have e1 := HR2.out.s.cv 1 (by decide)
  have e2 := HR2.out.s.cv 2 (by decide)
  have e3 := HR2.out.s.cv 3 (by decide)
  have e4 := HR2.out.s.cv 4 (by decide)
  have g0 := HR2.out.a.cv 0 (by decide)
  have g1 := HR2.out.a.cv 1 (by decide)
  have g2 := HR2.out.a.cv 2 (by decide)
  have g3 := HR2.out.a.cv 3 (by decide)
  have g4 := HR2.out.a.cv 4 (by decide)
  have f4 := HR2.out.s.fz
  have f5 := HR2.out.a.fz
  refine tillK_step (i := 8) (by kernel_rfl) rfl (by rfl) ?_
  intro Ka_8 hKa_8
  have HKa_8 := Lib.hid hKa_8
  clear hKa_8
  go_wp2_with fail
  refine HKa_8.out.out _ _ (fun _ => HX4.out _ _ _ _ _ rfl) ?_
  refine tillK_step (i := 9) (by kernel_rfl) rfl (by rfl) ?_
  intro Ka_9 hKa_9
  have HKa_9 := Lib.hid hKa_9
  clear hKa_9
  go_wp2_with fail
  refine HKa_9.out.out _ _ (fun h => by simp at h) ?_
  refine tillK_done (by kernel_rfl) ?_
  clear S0
  rw [hda] at HFI
  go_wp2_with fail
  refine bodyPost_ret (v := .tuple #[shV s A, ansV (ansC 13 xc)]) (by simp [results, Try.results23, go_sem, e0, e1, e2, e3, e4, g0, g1, g2, g3, g4, ansC, hda]) rfl ?_
  rw [HE.out]
  exact (HFI.out _ rfl).drew
set_option maxRecDepth 100000 in
set_option maxHeartbeats 8000000 in
theorem prepNone_any (B : Nat) (s : Sh) (A : Sad) (o : Odr) (a : Option Addr) (c : Nat) (q : Option Addr) (qn qc : Nat) (w : World) (hM : ShM w s A) (hB : B ≤ w.heap.size) (zs : SzS s) (zo : SzO o) (hov : oixS o.t 0 s.done = none ∧ ovrS o.t s.done = none) (hkn : kixS o.t 0 s.opn = none ∧ knoS o.t s.opn = none) :
    Calls Try.prog 23 #[shV s A, odrV o a c (.slice q qn qc)] w (OrB B w (prepS s o)) := by
  obtain ⟨u, hu⟩ : ∃ u, Value.slice q qn qc = u := ⟨_, rfl⟩
  rw [hu]
  clear hu
  obtain ⟨W, hW⟩ : ∃ W, doW w s A o a c u = W := ⟨_, rfl⟩
  obtain ⟨x, hx⟩ : ∃ x, w.heap.size = x := ⟨_, rfl⟩
  obtain ⟨hS, hO, hR, hBW, hsz⟩ := four hW hx
  have hol : s.opn.length ≤ 140737488351232 := by have := zs.olen; omega
  have hdl : s.done.length ≤ 140737488351232 := by have := zs.dlen; omega
  have HP := Lib.hid (show PB x s A o a c u W from ⟨hS, hO, hM.later hBW⟩)
  have HR := Lib.hid (show RsC B w W (x + 1 + 1) (x + 1 + 1 + 1) from ⟨hR.s, hR.a, Nat.le_trans hB hR.l4, hR.l5, hR.b.mono hB⟩)
  have HBX := Lib.hid (show B ≤ x from hx ▸ hB)
  have HDA := Lib.hid (fun w' (h : Below W.heap.size W w') => rOver_any s A o.t hdl w' ((hM.later hBW).later h))
  have HOA := Lib.hid (fun w' (h : Below W.heap.size W w') => rKnown_any s A o.t hol w' ((hM.later hBW).later h))
  have HZ := Lib.hid zs
  have HZO := Lib.hid zo
  have HW := Lib.hid hW
  have HX := Lib.hid hx
  have HSZ := Lib.hid hsz
  obtain ⟨kd, ⟨ta, ti⟩, key, P, cm⟩ := o
  obtain ⟨r, hr⟩ : ∃ r, prepS s ⟨kd, ⟨ta, ti⟩, key, P, cm⟩ = r := ⟨_, rfl⟩
  rw [hr]
  have HRR := Lib.hid hr
  obtain ⟨_, q0, q1, q2, q3, q4, q5, q6⟩ := hO
  obtain ⟨_, c0, c1, c2, c3, c4⟩ := hS
  simp only at q0 q1 q2 q3 q4 q5 HDA HOA
  simp only at hov hkn
  have HOVH := Lib.hid hov
  have HKNH := Lib.hid hkn
  clear hov hkn
  clear hM hB zs zo hR hBW hsz hW hx hr
  go_enter Try.func23, Try.ntmps23
  go_wp2_with fail
  have hWX := HW.out
  simp only [doW] at hWX
  rw [hWX, HX.out]
  clear hWX
  go_wp2_with fail
  refine (HDA.out W (Below.refl _ _)).mono ?_
  rintro e w1 ⟨rfl, hb1⟩
  have HB1 := Lib.hid hb1
  have HP1 := Lib.hid (HP.out.later hb1)
  have HR1 := Lib.hid (HR.out.later HR.out.size hb1)
  clear hb1 c0 c1 c2 c3 c4 q0 q1 q2 q3 q4 q5 q6
  obtain ⟨_, c0, c1, c2, c3, c4⟩ := HP1.out.bs
  obtain ⟨_, q0, q1, q2, q3, q4, q5, q6⟩ := HP1.out.ob
  simp only at q0 q1 q2 q3 q4 q5
  go_wp2_with fail
  refine (HOA.out w1 HB1.out).mono ?_
  rintro e w2 ⟨rfl, hb2⟩
  have HB2 := Lib.hid (HB1.out.trans (hb2.mono HB1.out.size))
  have HP2 := Lib.hid (HP1.out.later hb2)
  have HR2 := Lib.hid (HR1.out.later HR1.out.size hb2)
  clear hb2 c0 c1 c2 c3 c4 q0 q1 q2 q3 q4 q5 q6
  have hov := HOVH.out
  rw [hov.1]
  have gI : ixI none = -1 := rfl
  rw [gI]
  have HOV := Lib.hid hov.2
  have hkn := HKNH.out
  rw [hkn.1]
  have gI : ixI none = -1 := rfl
  rw [gI]
  have hk2 := hkn.2
  clear gI
  have HE := Lib.hid (HRR.out.symm.trans (prep_none HOV.out hk2))
  clear hk2 hkn hov
  obtain ⟨_, c0, c1, c2, c3, c4⟩ := HP2.out.bs
  obtain ⟨_, q0, q1, q2, q3, q4, q5, q6⟩ := HP2.out.ob
  simp only at q0 q1 q2 q3 q4 q5
  go_upto_region 6 with (fail)
  refine tillK_begin (S := PB x s A ⟨kd, ⟨ta, ti⟩, key, P, cm⟩ a c u) (k := 3) (by kernel_rfl) ?_
  have S0 : PB x s A ⟨kd, ⟨ta, ti⟩, key, P, cm⟩ a c u w2.drew := HP2.out.later (Below.refl _ _).drew
  have HRe := Lib.hid (HR2.out.later HR2.out.size (Below.refl _ _).drew)
  refine tillK_take (i := 0) (v := .agg #[.slice A.ra s.rows.length A.rc, .slice A.ha s.holds.length A.hc, .slice A.oa s.opn.length A.oc, .slice A.da s.done.length A.dc, .int .u64 (s.ver : Nat)]) rfl (by kernel_rfl) (by kernel_rfl) (by kernel_rfl) (by kernel_rfl) (by kernel_rfl) (by kernel_rfl) (fun _ _ _ h => h) (Or.inl ⟨by rfl, ?hyb_0⟩) (by assumption) ?restb_0
  case hyb_0 =>
    rintro w' ⟨hb, ho, hm⟩
    obtain ⟨_, c0, c1, c2, c3, c4⟩ := hb
    obtain ⟨_, q0, q1, q2, q3, q4, q5, q6⟩ := ho
    simp only at q0 q1 q2 q3 q4 q5
    go_simp
  try simp only [Act.put, List.setIfInBounds_toArray]
  refine tillK_step (i := 1) (by kernel_rfl) rfl (by rfl) ?_
  intro Kb_1 hKb_1
  have HKb_1 := Lib.hid hKb_1
  clear hKb_1
  go_wp2_with fail
  refine (rNo_any 7 _).mono ?_
  rintro e w7 ⟨rfl, hb7⟩
  have HP7 := Lib.hid (S0.later hb7)
  have HR7 := Lib.hid (HRe.out.later HRe.out.size hb7)
  have HFI := Lib.hid (OrB.mk' (r := (s, ansE 7)) HR7.out HP7.out.m)
  have HX4 := Lib.hid (fun v0 v1 v2 v3 v4 (e : sK = [kdV v0, kdV v1, kdV v2, kdV v3, kdV v4]) => HP7.out.set4 HR7.out.s (by omega) v0 v1 v2 v3 v4 e)
  have e0 := HR7.out.s.cv 0 (by decide)
  have e1 := HR7.out.s.cv 1 (by decide)
  have e2 := HR7.out.s.cv 2 (by decide)
  have e3 := HR7.out.s.cv 3 (by decide)
  have e4 := HR7.out.s.cv 4 (by decide)
  have g0 := HR7.out.a.cv 0 (by decide)
  have g1 := HR7.out.a.cv 1 (by decide)
  have g2 := HR7.out.a.cv 2 (by decide)
  have g3 := HR7.out.a.cv 3 (by decide)
  have g4 := HR7.out.a.cv 4 (by decide)
  have f4 := HR7.out.s.fz
  have f5 := HR7.out.a.fz
  clear hb7
  try dsimp only
  refine HKb_1.out.out _ _ (fun _ => HP7.out) ?_
  refine tillK_step (i := 2) (by kernel_rfl) rfl (by rfl) ?_
  intro Kb_2 hKb_2
  have HKb_2 := Lib.hid hKb_2
  clear hKb_2
  go_wp2_with fail
  refine HKb_2.out.out _ _ (fun _ => HX4.out _ _ _ _ _ rfl) ?_
  refine tillK_step (i := 3) (by kernel_rfl) rfl (by rfl) ?_
  intro Kb_3 hKb_3
  have HKb_3 := Lib.hid hKb_3
  clear hKb_3
  go_wp2_with fail
  refine HKb_3.out.out _ _ (fun h => by simp at h) ?_
  refine tillK_done (by kernel_rfl) ?_
  clear S0
  go_wp2_with fail
  refine bodyPost_ret (v := .tuple #[shV s A, ansV (ansE 7)]) (by simp [results, Try.results23, go_sem, e0, e1, e2, e3, e4, g0, g1, g2, g3, g4, ansE]) rfl ?_
  rw [HE.out]
  exact HFI.out _ rfl
end Go.Proofs.Ythgnecggdlamfaa
/- An order of no kind: the document's Do. -/
namespace Go.Proofs.Ythgnecggdlamfaa
open Go.RowKit

/-- The two boxes behind a refusal. -/
theorem RsB.boxes {w0 w : World} {x4 x5 : Nat} (h : RsB w0 w x4 x5) (s : Sh) (A : Sad) (n : Ans) (o : Obj) :
    ∀ u, u = ((set5s (set5s w x4 (.slice A.ra s.rows.length A.rc) (.slice A.ha s.holds.length A.hc) (.slice A.oa s.opn.length A.oc) (.slice A.da s.done.length A.dc) (.int .u64 (s.ver : Nat))) x5 (.int .i64 (n.err : Nat)) (.string n.val) (.int .u64 (n.ver : Nat)) (.bool n.found) (.bool n.cm)).alloc o).drew → ShB u x4 s A ∧ AnB u x5 n := fun u hu => by
  have h45 := h.l5
  have ha := (h.a.far5 (v0 := .slice A.ra s.rows.length A.rc) (v1 := .slice A.ha s.holds.length A.hc) (v2 := .slice A.oa s.opn.length A.oc) (v3 := .slice A.da s.done.length A.dc) (v4 := .int .u64 (s.ver : Nat)) (show x4 ≠ x5 by omega)).answer n
  obtain ⟨c0, c1, c2, c3, c4⟩ := h.s.cells5 (.slice A.ra s.rows.length A.rc) (.slice A.ha s.holds.length A.hc) (.slice A.oa s.opn.length A.oc) (.slice A.da s.done.length A.dc) (.int .u64 (s.ver : Nat))
  have hne : x5 ≠ x4 := by omega
  have f : ∀ j v, (set5s w x4 (.slice A.ra s.rows.length A.rc) (.slice A.ha s.holds.length A.hc) (.slice A.oa s.opn.length A.oc) (.slice A.da s.done.length A.dc) (.int .u64 (s.ver : Nat))).cell? ⟨x4, j, none⟩ = some v → (set5s (set5s w x4 (.slice A.ra s.rows.length A.rc) (.slice A.ha s.holds.length A.hc) (.slice A.oa s.opn.length A.oc) (.slice A.da s.done.length A.dc) (.int .u64 (s.ver : Nat))) x5 (.int .i64 (n.err : Nat)) (.string n.val) (.int .u64 (n.ver : Nat)) (.bool n.found) (.bool n.cm)).cell? ⟨x4, j, none⟩ = some v := fun j v e => by
    rw [set5s, World.cell?_setCell_far _ _ _ _ hne, World.cell?_setCell_far _ _ _ _ hne, World.cell?_setCell_far _ _ _ _ hne, World.cell?_setCell_far _ _ _ _ hne, World.cell?_setCell_far _ _ _ _ hne]; exact e
  have hs : ShB (set5s (set5s w x4 (.slice A.ra s.rows.length A.rc) (.slice A.ha s.holds.length A.hc) (.slice A.oa s.opn.length A.oc) (.slice A.da s.done.length A.dc) (.int .u64 (s.ver : Nat))) x5 (.int .i64 (n.err : Nat)) (.string n.val) (.int .u64 (n.ver : Nat)) (.bool n.found) (.bool n.cm)) x4 s A := ⟨by simpa using h.s.lt, f _ _ c0, f _ _ c1, f _ _ c2, f _ _ c3, f _ _ c4⟩
  rw [hu]
  exact ⟨hs.later ((Below.refl _ _).alloc (Nat.le_refl _) _).drew, ha.later ((Below.refl _ _).alloc (Nat.le_refl _) _).drew⟩
set_option maxRecDepth 100000 in
set_option maxHeartbeats 4000000 in
theorem rDoNo_any (s : Sh) (A : Sad) (o : Odr) (a : Option Addr) (c : Nat) (q : Option Addr) (qn qc : Nat) (w : World) (hM : ShM w s A) (h1 : o.kind ≠ 1) (h2 : o.kind ≠ 2) (h3 : o.kind ≠ 3) (h4 : o.kind ≠ 4) :
    Calls Try.prog 11 #[shV s A, odrV o a c (.slice q qn qc)] w (OrP w (doS s o)) := by
  obtain ⟨W, hW⟩ : ∃ W, doW w s A o a c (.slice q qn qc) = W := ⟨_, rfl⟩
  have hR := hW ▸ doW_rs w s A o a c (.slice q qn qc)
  have HR := Lib.hid hR
  have HW := Lib.hid hW
  have HMW := Lib.hid (hM.later HR.out.b)
  have hd : doS s o = (s, ansE 1) := by unfold doS; rw [if_neg (by omega), if_neg h3, if_neg h4]
  rw [hd]
  obtain ⟨x2, hx2⟩ : ∃ x, w.heap.size = x := ⟨_, rfl⟩
  have hS : W.cell? ⟨x2, 0, none⟩ = some (.slice A.ra s.rows.length A.rc) ∧ W.cell? ⟨x2, 1, none⟩ = some (.slice A.ha s.holds.length A.hc) ∧ W.cell? ⟨x2, 2, none⟩ = some (.slice A.oa s.opn.length A.oc) ∧ W.cell? ⟨x2, 3, none⟩ = some (.slice A.da s.done.length A.dc) ∧ W.cell? ⟨x2, 4, none⟩ = some (.int .u64 (s.ver : Nat)) := by
    rw [← hW, ← hx2]; exact ⟨by simp [go_sem], by simp [go_sem], by simp [go_sem], by simp [go_sem], by simp [go_sem]⟩
  have hz : W.heap.size = x2 + 1 + 1 + 1 + 1 := by rw [← hW, ← hx2]; simp
  rw [hx2] at hR HR
  have HFI := Lib.hid (OrP.mkN 1 1 rfl HR.out HMW.out)
  have HX2 := Lib.hid hx2
  obtain ⟨u0, e0⟩ := hR.s.so 0 (by decide)
  obtain ⟨u1, e1⟩ := hR.s.so 1 (by decide)
  obtain ⟨u2, e2⟩ := hR.s.so 2 (by decide)
  obtain ⟨u3, e3⟩ := hR.s.so 3 (by decide)
  obtain ⟨u4, e4⟩ := hR.s.so 4 (by decide)
  obtain ⟨v0, g0⟩ := hR.a.so 0 (by decide)
  obtain ⟨v1, g1⟩ := hR.a.so 1 (by decide)
  obtain ⟨v2, g2⟩ := hR.a.so 2 (by decide)
  obtain ⟨v3, g3⟩ := hR.a.so 3 (by decide)
  obtain ⟨v4, g4⟩ := hR.a.so 4 (by decide)
  have f4 := hR.s.fz
  have f5 := hR.a.fz
  obtain ⟨s0, s1, s2, s3, s4⟩ := hS
  obtain ⟨kd, t, key, P, cm⟩ := o
  simp only at h1 h2 h3 h4
  have n1 : (kd == 1) = false := by simpa using h1
  have n2 : (kd == 2) = false := by simpa using h2
  have n3 : (kd == 3) = false := by simpa using h3
  have n4 : (kd == 4) = false := by simpa using h4
  clear hM hR hW hx2 hd
  go_enter Try.func11, Try.ntmps11
  go_wp2_with fail
  have hWX := HW.out
  simp only [doW] at hWX
  rw [hWX, HX2.out]
  clear hWX
  go_region_law (go_simp; go_at_call 25; refine (rNoW_any 1 _).mono ?_; rintro e w3 ⟨rfl, rfl⟩; simp only [ansE])
  all_goals
    clear e0 e1 e2 e3 e4 g0 g1 g2 g3 g4 f4 f5 s0 s1 s2 s3 s4
    obtain ⟨U, hU⟩ : ∃ U, ((set5s (set5s W (x2 + 1 + 1) (.slice A.ra s.rows.length A.rc) (.slice A.ha s.holds.length A.hc) (.slice A.oa s.opn.length A.oc) (.slice A.da s.done.length A.dc) (.int .u64 (s.ver : Nat))) (x2 + 1 + 1 + 1) (.int .i64 1) (.string ⟨#[]⟩) (.int .u64 0) (.bool false) (.bool false)).alloc (.cells #[.int .i64 1, .string ⟨#[]⟩, .int .u64 0, .bool false, .bool false] 38)).drew = U := ⟨_, rfl⟩
    have HO := Lib.hid (HFI.out U hU.symm)
    obtain ⟨hs, ha⟩ := HR.out.boxes s A (ansE 1) (.cells #[.int .i64 1, .string ⟨#[]⟩, .int .u64 0, .bool false, .bool false] 38) U hU.symm
    simp only [set5s] at hU
    rw [hU]
    obtain ⟨_, r0, r1, r2, r3, r4⟩ := hs
    obtain ⟨_, q0, q1, q2, q3, q4⟩ := ha
    have q0 : U.cell? ⟨x2 + 1 + 1 + 1, 0, none⟩ = some (.int .i64 1) := q0
    have q1 : U.cell? ⟨x2 + 1 + 1 + 1, 1, none⟩ = some (.string ⟨#[]⟩) := q1
    have q2 : U.cell? ⟨x2 + 1 + 1 + 1, 2, none⟩ = some (.int .u64 0) := q2
    have q3 : U.cell? ⟨x2 + 1 + 1 + 1, 3, none⟩ = some (.bool false) := q3
    have q4 : U.cell? ⟨x2 + 1 + 1 + 1, 4, none⟩ = some (.bool false) := q4
    clear hU
    go_wp2_with fail
    exact bodyPost_ret (v := .tuple #[shV s A, .agg #[.int .i64 1, .string ⟨#[]⟩, .int .u64 0, .bool false, .bool false]]) (by simp [results, Try.results11, go_sem, r0, r1, r2, r3, r4, q0, q1, q2, q3, q4]) rfl HO.out
end Go.Proofs.Ythgnecggdlamfaa
/- One order: the document's Do. -/
namespace Go.Proofs.Ythgnecggdlamfaa
open Go.RowKit

theorem asks_all (s : Sh) (A : Sad) (o : Odr) (a : Option Addr) (c : Nat) (q : Option Addr) (qn qc : Nat) (w : World) (hM : ShM w s A) (zs : SzS s) (zo : SzO o) :
    Calls Try.prog 22 #[shV s A, odrV o a c (.slice q qn qc)] w (OrP w (asksS s o)) := by
  rcases oix_ovr o.t s.done 0 with ⟨h1, h2⟩ | ⟨j, y, h1, h2, h3⟩
  · rcases kix_kno o.t s.opn 0 with ⟨k1, k2⟩ | ⟨j, y, k1, k2, k3⟩
    · exact asksNone_any w.heap.size s A o a c q qn qc w hM (Nat.le_refl _) zs zo ⟨h1, h2⟩ ⟨k1, k2⟩
    · have hkn : ∃ (j : Nat) (y : SopM), A.om[j]? = some y ∧ kixS o.t 0 s.opn = some j ∧ knoS o.t s.opn = some y.x := by
        rw [← hM.om, List.getElem?_map] at k2
        obtain ⟨z, hz, hzx⟩ := Option.map_eq_some_iff.1 k2
        exact ⟨j, z, hz, by rw [k1, Nat.zero_add], by rw [k3, hzx]⟩
      exact asksKnown_any w.heap.size s A o a c q qn qc w hM (Nat.le_refl _) zs zo ⟨h1, h2⟩ hkn
  · exact asksOver_any w.heap.size s A o a c q qn qc w hM (Nat.le_refl _) zs zo ⟨j, y, by rw [h1, Nat.zero_add], h2, h3⟩
theorem prep_all (s : Sh) (A : Sad) (o : Odr) (a : Option Addr) (c : Nat) (q : Option Addr) (qn qc : Nat) (w : World) (hM : ShM w s A) (zs : SzS s) (zo : SzO o) (hcp : o.puts.length ≤ c ∧ c ≤ maxLen) (hP : Pus w a o.puts) :
    Calls Try.prog 23 #[shV s A, odrV o a c (.slice q qn qc)] w (OrP w (prepS s o)) := by
  rcases oix_ovr o.t s.done 0 with ⟨h1, h2⟩ | ⟨j, y, h1, h2, h3⟩
  · rcases kix_kno o.t s.opn 0 with ⟨k1, k2⟩ | ⟨j, y, k1, k2, k3⟩
    · exact prepNone_any w.heap.size s A o a c q qn qc w hM (Nat.le_refl _) zs zo ⟨h1, h2⟩ ⟨k1, k2⟩
    · have hkn : ∃ (j : Nat) (y : SopM), A.om[j]? = some y ∧ kixS o.t 0 s.opn = some j ∧ knoS o.t s.opn = some y.x := by
        rw [← hM.om, List.getElem?_map] at k2
        obtain ⟨z, hz, hzx⟩ := Option.map_eq_some_iff.1 k2
        exact ⟨j, z, hz, by rw [k1, Nat.zero_add], by rw [k3, hzx]⟩
      exact prepKnown_any w.heap.size s A o a c q qn qc w hM (Nat.le_refl _) zs zo ⟨h1, h2⟩ hkn hcp hP
  · exact prepOver_any w.heap.size s A o a c q qn qc w hM (Nat.le_refl _) zs zo ⟨j, y, by rw [h1, Nat.zero_add], h2, h3⟩
theorem fin_all2 (s : Sh) (A : Sad) (o : Odr) (a : Option Addr) (c : Nat) (q : Option Addr) (qn qc : Nat) (w : World) (hM : ShM w s A) (zs : SzS s) (zo : SzO o) :
    Calls Try.prog 24 #[shV s A, odrV o a c (.slice q qn qc)] w (OrP w (finS s o)) := by
  rcases oix_ovr o.t s.done 0 with ⟨h1, h2⟩ | ⟨j, y, h1, h2, h3⟩
  · rcases kix_kno o.t s.opn 0 with ⟨k1, k2⟩ | ⟨j, y, k1, k2, k3⟩
    · exact finNone_any w.heap.size s A o a c q qn qc w hM (Nat.le_refl _) zs zo ⟨h1, h2⟩ ⟨k1, k2⟩
    · have hkn : ∃ (j : Nat) (y : SopM), A.om[j]? = some y ∧ kixS o.t 0 s.opn = some j ∧ knoS o.t s.opn = some y.x := by
        rw [← hM.om, List.getElem?_map] at k2
        obtain ⟨z, hz, hzx⟩ := Option.map_eq_some_iff.1 k2
        exact ⟨j, z, hz, by rw [k1, Nat.zero_add], by rw [k3, hzx]⟩
      cases hcm : o.cm
      · exact finDrop_any w.heap.size s A o a c q qn qc w hM (Nat.le_refl _) zs zo ⟨h1, h2⟩ hkn hcm
      · exact finKeep_any w.heap.size s A o a c q qn qc w hM (Nat.le_refl _) zs zo ⟨h1, h2⟩ hkn hcm
  · exact finOver_any w.heap.size s A o a c q qn qc w hM (Nat.le_refl _) zs zo ⟨j, y, by rw [h1, Nat.zero_add], h2, h3⟩
theorem rDo_all (s : Sh) (A : Sad) (o : Odr) (a : Option Addr) (c : Nat) (q : Option Addr) (qn qc : Nat) (w : World) (hM : ShM w s A) (zs : SzS s) (zo : SzO o) (hcp : o.puts.length ≤ c ∧ c ≤ maxLen) (hP : Pus w a o.puts) :
    Calls Try.prog 11 #[shV s A, odrV o a c (.slice q qn qc)] w (OrP w (doS s o)) := by
  by_cases hk : o.kind = 1 ∨ o.kind = 2 ∨ o.kind = 3 ∨ o.kind = 4
  · exact rDoIn_any s A o a c q qn qc w hM hk (fun w' hb _ => asks_all s A o a c q qn qc w' (hM.later hb) zs zo) (fun w' hb _ => prep_all s A o a c q qn qc w' (hM.later hb) zs zo hcp (hP.later hb)) (fun w' hb _ => fin_all2 s A o a c q qn qc w' (hM.later hb) zs zo)
  · exact rDoNo_any s A o a c q qn qc w hM (fun e => hk (.inl e)) (fun e => hk (.inr (.inl e))) (fun e => hk (.inr (.inr (.inl e)))) (fun e => hk (.inr (.inr (.inr e))))
end Go.Proofs.Ythgnecggdlamfaa
