/- The program's prepare. -/
import Derived.Test.YthgnecggdlamfaaTq
import Derived.Test.YthgnecggdlamfaaTn
namespace Go.Proofs.Ythgnecggdlamfaa
open Go.RowKit

set_option maxRecDepth 100000 in
set_option maxHeartbeats 8000000 in
theorem prepare_any (B : Nat) (s : Sh) (A : Sad) (o : Odr) (a : Option Addr) (c : Nat) (q : Option Addr) (qn qc : Nat) (w : World) (hC : ShC B w s A) (hB : B ≤ w.heap.size) (zs : SzS s) (zo : SzO o) (hP : Pus w a o.puts) :
    Calls Try.prog 20 #[shV s A, odrV o a c (.slice q qn qc)] w (OrB B w (prepS s o)) := by
  obtain ⟨u, hu⟩ : ∃ u, Value.slice q qn qc = u := ⟨_, rfl⟩
  rw [hu]
  clear hu
  obtain ⟨W, hW⟩ : ∃ W, doW w s A o a c u = W := ⟨_, rfl⟩
  obtain ⟨x, hx⟩ : ∃ x, w.heap.size = x := ⟨_, rfl⟩
  obtain ⟨hS, hO, hR, hBW, hsz⟩ := four hW hx
  have hol : s.opn.length ≤ 140737488351232 := by have := zs.olen; omega
  have hdl : s.done.length ≤ 140737488351232 := by have := zs.dlen; omega
  have HP := Lib.hid (show PB x s A o a c u W from ⟨hS, hO, hC.m.later hBW⟩)
  have HR := Lib.hid (show RsC B w W (x + 1 + 1) (x + 1 + 1 + 1) from ⟨hR.s, hR.a, Nat.le_trans hB hR.l4, hR.l5, hR.b.mono hB⟩)
  have HC := Lib.hid (hC.later hBW)
  have HALL := Lib.hid (fun b hb => (hC.all b hb).mono (Nat.le_refl _) (Nat.le_of_eq hx))
  have HBX := Lib.hid (show B ≤ x from hx ▸ hB)
  have HDA := Lib.hid (fun w' (h : Below W.heap.size W w') => doneAt_any s A o.t w' ((hC.m.later hBW).later h) hdl)
  have HOA := Lib.hid (fun w' (h : Below W.heap.size W w') => openAt_any s A o.t w' ((hC.m.later hBW).later h) hol)
  have HMP := Lib.hid (fun w' (h : Below W.heap.size W w') (y : SopM) (hy : y ∈ A.om) => mayPrepare_any s A y o.puts.length c a o.puts rfl (by have := zo.plen; omega) zo.puts (by have := (zs.opn y.x (by rw [← hC.m.om]; exact List.mem_map.2 ⟨y, hy, rfl⟩)).2.1; omega) zs w' ((hC.m.later hBW).later h) (((hC.m.puts y hy).later hBW).later h) ((hP.later hBW).later h))
  have HCL := Lib.hid (fun w' (h : Below W.heap.size W w') => clonePut_any o.puts.length c a o.puts rfl (by have := zo.plen; omega) w' ((hP.later hBW).later h))
  have HZ := Lib.hid zs
  have HZO := Lib.hid zo
  have HW := Lib.hid hW
  have HX := Lib.hid hx
  have HSZ := Lib.hid hsz
  obtain ⟨kd, ⟨ta, ti⟩, key, P, cm⟩ := o
  obtain ⟨r, hr⟩ : ∃ r, prepS s ⟨kd, ⟨ta, ti⟩, key, P, cm⟩ = r := ⟨_, rfl⟩
  rw [hr]
  have HRR := Lib.hid hr
  obtain ⟨_, q0, q1, q2, q3, q4, q5, q6⟩ := hO
  obtain ⟨_, c0, c1, c2, c3, c4⟩ := hS
  simp only at q0 q1 q2 q3 q4 q5 HDA HOA
  clear hC hB zs zo hR hBW hsz hW hx hr
  go_enter Try.func20, Try.ntmps20
  go_wp2_with fail
  have hWX := HW.out
  simp only [doW] at hWX
  rw [hWX, HX.out]
  clear hWX
  go_wp2_with fail
  refine (HDA.out W (Below.refl _ _)).mono ?_
  rintro e w1 ⟨rfl, hb1⟩
  have HB1 := Lib.hid hb1
  have HP1 := Lib.hid (HP.out.later hb1)
  have HR1 := Lib.hid (HR.out.later HR.out.size hb1)
  clear hb1 c0 c1 c2 c3 c4 q0 q1 q2 q3 q4 q5 q6
  rcases oix_ovr ⟨ta, ti⟩ s.done 0 with ⟨h3, h4⟩ | ⟨j, y, h3, hx, h5⟩
  case inr =>
    rw [h3, Nat.zero_add]
    have hr1 := HRR.out.symm.trans (prep_over h5)
    have hjl := (List.getElem?_eq_some_iff.1 hx).1
    obtain ⟨b, off, hda, _, _, _, _⟩ := Sdn.cells HP1.out.m.done hx
    have i0 : (0 : Int) ≤ (j : Int) := by omega
    have i1 : (j : Int) < (s.done.length : Int) := by omega
    have gI : ixI (some j) = (j : Int) := rfl
    rw [gI]
    obtain ⟨⟨xa, xi⟩, xc⟩ := y
    clear gI h3 h5 hjl
    go_upto_region 3 with (fail)
    refine tillK_begin (S := PB x s A ⟨kd, ⟨ta, ti⟩, key, P, cm⟩ a c u) (k := 8) (by kernel_rfl) ?_
    have S0 : PB x s A ⟨kd, ⟨ta, ti⟩, key, P, cm⟩ a c u w1.drew := HP1.out.later (Below.refl _ _).drew
    refine tillK_take (i := 0) (v := .agg #[.slice A.ra s.rows.length A.rc, .slice A.ha s.holds.length A.hc, .slice A.oa s.opn.length A.oc, .slice (some ⟨b, off, none⟩) s.done.length A.dc, .int .u64 (s.ver : Nat)]) rfl (by kernel_rfl) (by kernel_rfl) (by kernel_rfl) (by kernel_rfl) (by kernel_rfl) (by kernel_rfl) (fun _ _ _ h => h) (Or.inl ⟨by rfl, ?hya_0⟩) (by assumption) ?resta_0
    case hya_0 =>
      rintro w' ⟨hb, ho, hm⟩
      obtain ⟨_, c0, c1, c2, c3, c4⟩ := hb
      rw [hda] at c3
      go_simp
    try simp only [Act.put, List.setIfInBounds_toArray]
    refine tillK_take (i := 1) (v := .pointer (some ⟨x, 3, none⟩)) rfl (by kernel_rfl) (by kernel_rfl) (by kernel_rfl) (by kernel_rfl) (by kernel_rfl) (by kernel_rfl) (fun _ _ _ h => h) (Or.inl ⟨by rfl, ?hya_1⟩) (by assumption) ?resta_1
    case hya_1 =>
      rintro w' ⟨hb, ho, hm⟩
      obtain ⟨_, c0, c1, c2, c3, c4⟩ := hb
      rw [hda] at c3
      go_simp
    try simp only [Act.put]
    refine tillK_take (i := 2) (v := .slice (some ⟨b, off, none⟩) s.done.length A.dc) rfl (by kernel_rfl) (by kernel_rfl) (by kernel_rfl) (by kernel_rfl) (by kernel_rfl) (by kernel_rfl) (fun _ _ _ h => h) (Or.inl ⟨by rfl, ?hya_2⟩) (by assumption) ?resta_2
    case hya_2 =>
      rintro w' ⟨hb, ho, hm⟩
      obtain ⟨_, c0, c1, c2, c3, c4⟩ := hb
      rw [hda] at c3
      go_simp
    try simp only [Act.put]
    refine tillK_take (i := 3) (v := .int .i64 j) rfl (by kernel_rfl) (by kernel_rfl) (by kernel_rfl) (by kernel_rfl) (by kernel_rfl) (by kernel_rfl) (fun _ _ _ h => h) (Or.inl ⟨by rfl, ?hya_3⟩) (by assumption) ?resta_3
    case hya_3 =>
      rintro w' ⟨hb, ho, hm⟩
      obtain ⟨_, c0, c1, c2, c3, c4⟩ := hb
      rw [hda] at c3
      go_simp
    try simp only [Act.put]
    refine tillK_take (i := 4) (v := .pointer (some ⟨b, off + j * 3, none⟩)) rfl (by kernel_rfl) (by kernel_rfl) (by kernel_rfl) (by kernel_rfl) (by kernel_rfl) (by kernel_rfl) (fun _ _ _ h => h) (Or.inl ⟨by rfl, ?hya_4⟩) (by assumption) ?resta_4
    case hya_4 =>
      rintro w' ⟨hb, ho, hm⟩
      obtain ⟨_, c0, c1, c2, c3, c4⟩ := hb
      rw [hda] at c3
      go_simp
    try simp only [Act.put]
    refine tillK_take (i := 5) (v := .agg #[.int .u64 (xa : Nat), .int .u64 (xi : Nat), .bool xc]) rfl (by kernel_rfl) (by kernel_rfl) (by kernel_rfl) (by kernel_rfl) (by kernel_rfl) (by kernel_rfl) (fun _ _ _ h => h) (Or.inl ⟨by rfl, ?hya_5⟩) (by assumption) ?resta_5
    case hya_5 =>
      rintro w' ⟨hb, ho, hm⟩
      obtain ⟨_, c0, c1, c2, c3, c4⟩ := hb
      rw [hda] at c3
      obtain ⟨_, p0, p1, p2⟩ := dn_at hm hda hx
      simp only at p0 p1 p2
      clear hm
      go_simp
    try simp only [Act.put]
    refine tillK_step (i := 6) (by kernel_rfl) rfl (by rfl) ?_
    intro Ka_6 hKa_6
    have HKa_6 := Lib.hid hKa_6
    clear hKa_6
    go_wp2_with fail
    refine (tooLate_any ⟨⟨xa, xi⟩, xc⟩ _).mono ?_
    rintro e w2 ⟨rfl, hb2⟩
    have HP2 := Lib.hid (S0.later hb2)
    have HR2 := Lib.hid ((HR1.out.later HR1.out.size (Below.refl _ _).drew).later (HR1.out.later HR1.out.size (Below.refl _ _).drew).size hb2)
    have HFI := Lib.hid (OrB.mk' (r := (s, ansC 13 xc)) HR2.out HP2.out.m)
    have HX4 := Lib.hid (fun v0 v1 v2 v3 v4 (e : sK = [kdV v0, kdV v1, kdV v2, kdV v3, kdV v4]) => HP2.out.set4 HR2.out.s (by omega) v0 v1 v2 v3 v4 e)
    obtain ⟨u0, e0⟩ := HR2.out.s.so 0 (by decide)
    obtain ⟨u1, e1⟩ := HR2.out.s.so 1 (by decide)
    obtain ⟨u2, e2⟩ := HR2.out.s.so 2 (by decide)
    obtain ⟨u3, e3⟩ := HR2.out.s.so 3 (by decide)
    obtain ⟨u4, e4⟩ := HR2.out.s.so 4 (by decide)
    obtain ⟨v0, g0⟩ := HR2.out.a.so 0 (by decide)
    obtain ⟨v1, g1⟩ := HR2.out.a.so 1 (by decide)
    obtain ⟨v2, g2⟩ := HR2.out.a.so 2 (by decide)
    obtain ⟨v3, g3⟩ := HR2.out.a.so 3 (by decide)
    obtain ⟨v4, g4⟩ := HR2.out.a.so 4 (by decide)
    have f4 := HR2.out.s.fz
    have f5 := HR2.out.a.fz
    clear hb2
    dsimp only
    refine HKa_6.out.out _ _ (fun _ => HP2.out) ?_
    refine tillK_step (i := 7) (by kernel_rfl) rfl (by rfl) ?_
    intro Ka_7 hKa_7
    have HKa_7 := Lib.hid hKa_7
    clear hKa_7
    go_wp2_with fail
    refine HKa_7.out.out _ _ (fun _ => HX4.out _ _ _ _ _ rfl) ?_
    refine tillK_step (i := 8) (by kernel_rfl) rfl (by rfl) ?_
    intro Ka_8 hKa_8
    have HKa_8 := Lib.hid hKa_8
    clear hKa_8
    go_wp2_with fail
    refine HKa_8.out.out _ _ (fun h => by simp at h) ?_
    refine tillK_done (by kernel_rfl) ?_
    go_wp2_with fail
    rw [hda] at HFI
    refine bodyPost_ret (v := .tuple #[shV s A, ansV (ansC 13 xc)]) (by simp [results, Try.results20, go_sem, e0, e1, e2, e3, e4, g0, g1, g2, g3, g4, ansC, hda]) rfl ?_
    rw [hr1]
    exact HFI.out _ rfl
  rw [h3]
  have gI : ixI none = -1 := rfl
  rw [gI]
  have HOV := Lib.hid h4
  obtain ⟨_, c0, c1, c2, c3, c4⟩ := HP1.out.bs
  obtain ⟨_, q0, q1, q2, q3, q4, q5, q6⟩ := HP1.out.ob
  simp only at q0 q1 q2 q3 q4 q5
  clear gI h3 h4
  go_wp2_with fail
  refine (HOA.out w1 HB1.out).mono ?_
  rintro e w2 ⟨rfl, hb2⟩
  have HB2 := Lib.hid (HB1.out.trans (hb2.mono HB1.out.size))
  have HP2 := Lib.hid (HP1.out.later hb2)
  have HR2 := Lib.hid (HR1.out.later HR1.out.size hb2)
  clear hb2 c0 c1 c2 c3 c4 q0 q1 q2 q3 q4 q5 q6
  rcases kix_kno ⟨ta, ti⟩ s.opn 0 with ⟨h3, h4⟩ | ⟨j, sx, h3, hsx, h5⟩
  case inl =>
    rw [h3]
    have gI : ixI none = -1 := rfl
    rw [gI]
    have HE := Lib.hid (HRR.out.symm.trans (prep_none HOV.out h4))
    have HFI := Lib.hid (OrB.mk' (r := (s, ansE 7)) HR2.out HP2.out.m)
    obtain ⟨_, c0, c1, c2, c3, c4⟩ := HP2.out.bs
    obtain ⟨u0, e0⟩ := HR2.out.s.so 0 (by decide)
    obtain ⟨u1, e1⟩ := HR2.out.s.so 1 (by decide)
    obtain ⟨u2, e2⟩ := HR2.out.s.so 2 (by decide)
    obtain ⟨u3, e3⟩ := HR2.out.s.so 3 (by decide)
    obtain ⟨u4, e4⟩ := HR2.out.s.so 4 (by decide)
    obtain ⟨v0, g0⟩ := HR2.out.a.so 0 (by decide)
    obtain ⟨v1, g1⟩ := HR2.out.a.so 1 (by decide)
    obtain ⟨v2, g2⟩ := HR2.out.a.so 2 (by decide)
    obtain ⟨v3, g3⟩ := HR2.out.a.so 3 (by decide)
    obtain ⟨v4, g4⟩ := HR2.out.a.so 4 (by decide)
    have f4 := HR2.out.s.fz
    have f5 := HR2.out.a.fz
    clear gI h3 h4
    go_wp2_with fail
    refine bodyPost_ret (v := .tuple #[shV s A, ansV (ansE 7)]) (by simp [results, Try.results20, go_sem, e0, e1, e2, e3, e4, g0, g1, g2, g3, g4, ansE]) rfl ?_
    rw [HE.out]
    exact HFI.out _ rfl
  rw [h3, Nat.zero_add]
  have hjl := (List.getElem?_eq_some_iff.1 hsx).1
  obtain ⟨y, hy⟩ : ∃ y, A.om[j]? = some y := ⟨_, List.getElem?_eq_getElem (by rw [HC.out.m.olen]; exact hjl)⟩
  have hyx : y.x = sx := by
    have h6 : s.opn[j]? = some y.x := by rw [← HC.out.m.om, List.getElem?_map, hy]; rfl
    rw [hsx] at h6
    exact (Option.some.inj h6).symm
  have hym := List.mem_of_getElem? hy
  have hr2 := HRR.out.symm.trans (prep_may HOV.out h5)
  have hprp := prp_set ⟨ta, ti⟩ P s.opn 0 j sx h3 hsx
  obtain ⟨g, oc', e, hBg, _, hcm, hd⟩ := Hd.of sopT HC.out.opn (by have := HC.out.m.olen; omega)
  injection e with hoa e9 e10
  clear e9
  have HD := Lib.hid hd
  have HMY := Lib.hid (fun w' h => HMP.out w' h y hym)
  rw [hyx] at HMY
  have HRM := Lib.hid hr2
  have HPRP := Lib.hid hprp
  have HYX := Lib.hid hyx
  have HOC := Lib.hid (And.intro e10 hcm)
  have HBG := Lib.hid hBg
  have hgx : g < x := (HALL.out _ (.inr (.inr (.inl rfl))) ⟨g, 0, none⟩ hoa).2
  have i0 : (0 : Int) ≤ (j : Int) := by omega
  have i1 : (j : Int) < (s.opn.length : Int) := by omega
  have i2 : ¬ (j : Int) < 0 := by omega
  have gI : ixI (some j) = (j : Int) := rfl
  rw [gI]
  obtain ⟨mp, hmp⟩ : ∃ m, mayP s sx P = m := ⟨_, rfl⟩
  simp only [hmp] at HRM
  simp only [hmp] at HMY
  subst hyx
  clear gI h3 h5 hjl hr2 hprp hmp hsx hd hym e10 hcm HMP hBg
  obtain ⟨⟨⟨ya, yi⟩, yf, yw, yp⟩, pa, pc⟩ := y
  go_upto_region 7 with (fail)
  refine tillK_begin (S := PB x s A ⟨kd, ⟨ta, ti⟩, key, P, cm⟩ a c u) (k := 9) (by kernel_rfl) ?_
  have S0 : PB x s A ⟨kd, ⟨ta, ti⟩, key, P, cm⟩ a c u w2.drew := HP2.out.later (Below.refl _ _).drew
  have HB2d := Lib.hid (show Below W.heap.size W w2.drew from HB2.out.trans ((Below.refl w2.heap.size w2).drew.mono HB2.out.size))
  refine tillK_take (i := 0) (v := .agg #[.slice A.ra s.rows.length A.rc, .slice A.ha s.holds.length A.hc, .slice (some ⟨g, 0, none⟩) s.opn.length A.oc, .slice A.da s.done.length A.dc, .int .u64 (s.ver : Nat)]) rfl (by kernel_rfl) (by kernel_rfl) (by kernel_rfl) (by kernel_rfl) (by kernel_rfl) (by kernel_rfl) (fun _ _ _ h => h) (Or.inl ⟨by rfl, ?hyb_0⟩) (by assumption) ?restb_0
  case hyb_0 =>
    rintro w' ⟨hb, ho, hm⟩
    obtain ⟨_, c0, c1, c2, c3, c4⟩ := hb
    obtain ⟨_, q0, q1, q2, q3, q4, q5, q6⟩ := ho
    rw [hoa] at c2
    simp only at q0 q1 q2 q3 q4 q5
    go_simp
  try simp only [Act.put, List.setIfInBounds_toArray]
  refine tillK_take (i := 1) (v := .pointer (some ⟨x, 2, none⟩)) rfl (by kernel_rfl) (by kernel_rfl) (by kernel_rfl) (by kernel_rfl) (by kernel_rfl) (by kernel_rfl) (fun _ _ _ h => h) (Or.inl ⟨by rfl, ?hyb_1⟩) (by assumption) ?restb_1
  case hyb_1 =>
    rintro w' ⟨hb, ho, hm⟩
    obtain ⟨_, c0, c1, c2, c3, c4⟩ := hb
    obtain ⟨_, q0, q1, q2, q3, q4, q5, q6⟩ := ho
    rw [hoa] at c2
    simp only at q0 q1 q2 q3 q4 q5
    go_simp
  try simp only [Act.put]
  refine tillK_take (i := 2) (v := .slice (some ⟨g, 0, none⟩) s.opn.length A.oc) rfl (by kernel_rfl) (by kernel_rfl) (by kernel_rfl) (by kernel_rfl) (by kernel_rfl) (by kernel_rfl) (fun _ _ _ h => h) (Or.inl ⟨by rfl, ?hyb_2⟩) (by assumption) ?restb_2
  case hyb_2 =>
    rintro w' ⟨hb, ho, hm⟩
    obtain ⟨_, c0, c1, c2, c3, c4⟩ := hb
    obtain ⟨_, q0, q1, q2, q3, q4, q5, q6⟩ := ho
    rw [hoa] at c2
    simp only at q0 q1 q2 q3 q4 q5
    go_simp
  try simp only [Act.put]
  refine tillK_take (i := 3) (v := .int .i64 j) rfl (by kernel_rfl) (by kernel_rfl) (by kernel_rfl) (by kernel_rfl) (by kernel_rfl) (by kernel_rfl) (fun _ _ _ h => h) (Or.inl ⟨by rfl, ?hyb_3⟩) (by assumption) ?restb_3
  case hyb_3 =>
    rintro w' ⟨hb, ho, hm⟩
    obtain ⟨_, c0, c1, c2, c3, c4⟩ := hb
    obtain ⟨_, q0, q1, q2, q3, q4, q5, q6⟩ := ho
    rw [hoa] at c2
    simp only at q0 q1 q2 q3 q4 q5
    go_simp
  try simp only [Act.put]
  refine tillK_take (i := 4) (v := .pointer (some ⟨g, j * 5, none⟩)) rfl (by kernel_rfl) (by kernel_rfl) (by kernel_rfl) (by kernel_rfl) (by kernel_rfl) (by kernel_rfl) (fun _ _ _ h => h) (Or.inl ⟨by rfl, ?hyb_4⟩) (by assumption) ?restb_4
  case hyb_4 =>
    rintro w' ⟨hb, ho, hm⟩
    obtain ⟨_, c0, c1, c2, c3, c4⟩ := hb
    obtain ⟨_, q0, q1, q2, q3, q4, q5, q6⟩ := ho
    rw [hoa] at c2
    simp only at q0 q1 q2 q3 q4 q5
    go_simp
  try simp only [Act.put]
  refine tillK_take (i := 5) (v := .agg #[.int .u64 (ya : Nat), .int .u64 (yi : Nat), .bool yf, .bool yw, .slice pa yp.length pc]) rfl (by kernel_rfl) (by kernel_rfl) (by kernel_rfl) (by kernel_rfl) (by kernel_rfl) (by kernel_rfl) (fun _ _ _ h => h) (Or.inl ⟨by rfl, ?hyb_5⟩) (by assumption) ?restb_5
  case hyb_5 =>
    rintro w' ⟨hb, ho, hm⟩
    obtain ⟨_, c0, c1, c2, c3, c4⟩ := hb
    obtain ⟨_, q0, q1, q2, q3, q4, q5, q6⟩ := ho
    rw [hoa] at c2
    simp only at q0 q1 q2 q3 q4 q5
    obtain ⟨_, p0, p1, p2, p3, p4⟩ := op_at hm hoa hy
    simp only [Nat.zero_add] at p0 p1 p2 p3 p4
    go_simp
  try simp only [Act.put]
  refine tillK_take (i := 6) (v := .pointer (some ⟨x + 1, 4, none⟩)) rfl (by kernel_rfl) (by kernel_rfl) (by kernel_rfl) (by kernel_rfl) (by kernel_rfl) (by kernel_rfl) (fun _ _ _ h => h) (Or.inl ⟨by rfl, ?hyb_6⟩) (by assumption) ?restb_6
  case hyb_6 =>
    rintro w' ⟨hb, ho, hm⟩
    obtain ⟨_, c0, c1, c2, c3, c4⟩ := hb
    obtain ⟨_, q0, q1, q2, q3, q4, q5, q6⟩ := ho
    rw [hoa] at c2
    simp only at q0 q1 q2 q3 q4 q5
    go_simp
  try simp only [Act.put]
  refine tillK_take (i := 7) (v := .slice a P.length c) rfl (by kernel_rfl) (by kernel_rfl) (by kernel_rfl) (by kernel_rfl) (by kernel_rfl) (by kernel_rfl) (fun _ _ _ h => h) (Or.inl ⟨by rfl, ?hyb_7⟩) (by assumption) ?restb_7
  case hyb_7 =>
    rintro w' ⟨hb, ho, hm⟩
    obtain ⟨_, c0, c1, c2, c3, c4⟩ := hb
    obtain ⟨_, q0, q1, q2, q3, q4, q5, q6⟩ := ho
    rw [hoa] at c2
    simp only at q0 q1 q2 q3 q4 q5
    go_simp
  try simp only [Act.put]
  refine tillK_step (i := 8) (by kernel_rfl) rfl (by rfl) ?_
  intro Kb_8 hKb_8
  have HKb_8 := Lib.hid hKb_8
  clear hKb_8
  go_wp2_with fail
  rw [show (.agg #[.slice A.ra s.rows.length A.rc, .slice A.ha s.holds.length A.hc, .slice (some ⟨g, 0, none⟩) s.opn.length A.oc, .slice A.da s.done.length A.dc, .int .u64 (s.ver : Nat)] : Value) = shV s A from by rw [← hoa]]
  refine (HMY.out _ HB2d.out).mono ?_
  rintro e w3 ⟨rfl, hb3⟩
  have HB3 := Lib.hid (HB2d.out.trans (hb3.mono HB2d.out.size))
  have HP3 := Lib.hid (S0.later hb3)
  have HR3 := Lib.hid (HR2.out.later HR2.out.size ((Below.refl w2.heap.size w2).drew.trans hb3))
  have S3 := HP3.out
  clear hb3 S0 HMY
  dsimp only
  refine HKb_8.out.out _ _ (fun _ => S3) ?_
  refine tillK_step (i := 9) (by kernel_rfl) rfl (by rfl) ?_
  intro Kb_9 hKb_9
  have HKb_9 := Lib.hid hKb_9
  clear hKb_9
  go_wp2_with fail
  refine HKb_9.out.out _ _ (fun h => by simp at h) ?_
  refine tillK_done (by kernel_rfl) ?_
  clear S3 HKb_8 HKb_9
  by_cases hm0 : mp = 0
  case neg =>
    have hr1 := HRM.out
    rw [if_pos hm0] at hr1
    have HE := Lib.hid hr1
    have m1 : ((mp : Int) == 0) = false := by simp; omega
    have m2 : ((mp : Int) != 0) = true := by simp; omega
    have HFI := Lib.hid (OrB.mk' (r := (s, ansE mp)) HR3.out HP3.out.m)
    obtain ⟨_, c0, c1, c2, c3, c4⟩ := HP3.out.bs
    obtain ⟨u0, e0⟩ := HR3.out.s.so 0 (by decide)
    obtain ⟨u1, e1⟩ := HR3.out.s.so 1 (by decide)
    obtain ⟨u2, e2⟩ := HR3.out.s.so 2 (by decide)
    obtain ⟨u3, e3⟩ := HR3.out.s.so 3 (by decide)
    obtain ⟨u4, e4⟩ := HR3.out.s.so 4 (by decide)
    obtain ⟨v0, g0⟩ := HR3.out.a.so 0 (by decide)
    obtain ⟨v1, g1⟩ := HR3.out.a.so 1 (by decide)
    obtain ⟨v2, g2⟩ := HR3.out.a.so 2 (by decide)
    obtain ⟨v3, g3⟩ := HR3.out.a.so 3 (by decide)
    obtain ⟨v4, g4⟩ := HR3.out.a.so 4 (by decide)
    have f4 := HR3.out.s.fz
    have f5 := HR3.out.a.fz
    clear hr1 hm0 hoa
    go_wp2_with fail
    refine bodyPost_ret (v := .tuple #[shV s A, ansV (ansE mp)]) (by simp [results, Try.results20, go_sem, e0, e1, e2, e3, e4, g0, g1, g2, g3, g4, ansE]) rfl ?_
    rw [HE.out]
    exact HFI.out _ rfl
  subst hm0
  have hr1 := HRM.out
  rw [if_neg (by simp)] at hr1
  have HE := Lib.hid hr1
  clear hr1
  go_upto_region 10 with (fail)
  refine tillK_begin (S := fun w' => BS w' x s A ∧ OB w' (x + 1) ⟨kd, ⟨ta, ti⟩, key, P, cm⟩ a c u) (k := 14) (by kernel_rfl) ?_
  have S0 : BS w3.drew x s A ∧ OB w3.drew (x + 1) ⟨kd, ⟨ta, ti⟩, key, P, cm⟩ a c u := ⟨HP3.out.bs.later (Below.refl _ _).drew, HP3.out.ob.later (Below.refl _ _).drew⟩
  have HB3d := Lib.hid (show Below W.heap.size W w3.drew from HB3.out.trans ((Below.refl w3.heap.size w3).drew.mono HB3.out.size))
  refine tillK_take (i := 0) (v := .pointer (some ⟨x, 2, none⟩)) rfl (by kernel_rfl) (by kernel_rfl) (by kernel_rfl) (by kernel_rfl) (by kernel_rfl) (by kernel_rfl) (fun _ _ _ h => h) (Or.inl ⟨by rfl, ?hyc_0⟩) (by assumption) ?restc_0
  case hyc_0 =>
    rintro w' ⟨hb, ho⟩
    obtain ⟨_, c0, c1, c2, c3, c4⟩ := hb
    obtain ⟨_, q0, q1, q2, q3, q4, q5, q6⟩ := ho
    rw [hoa] at c2
    simp only at q0 q1 q2 q3 q4 q5
    go_simp
  try simp only [Act.put, List.setIfInBounds_toArray]
  refine tillK_take (i := 1) (v := .slice (some ⟨g, 0, none⟩) s.opn.length A.oc) rfl (by kernel_rfl) (by kernel_rfl) (by kernel_rfl) (by kernel_rfl) (by kernel_rfl) (by kernel_rfl) (fun _ _ _ h => h) (Or.inl ⟨by rfl, ?hyc_1⟩) (by assumption) ?restc_1
  case hyc_1 =>
    rintro w' ⟨hb, ho⟩
    obtain ⟨_, c0, c1, c2, c3, c4⟩ := hb
    obtain ⟨_, q0, q1, q2, q3, q4, q5, q6⟩ := ho
    rw [hoa] at c2
    simp only at q0 q1 q2 q3 q4 q5
    go_simp
  try simp only [Act.put]
  refine tillK_take (i := 2) (v := .int .i64 j) rfl (by kernel_rfl) (by kernel_rfl) (by kernel_rfl) (by kernel_rfl) (by kernel_rfl) (by kernel_rfl) (fun _ _ _ h => h) (Or.inl ⟨by rfl, ?hyc_2⟩) (by assumption) ?restc_2
  case hyc_2 =>
    rintro w' ⟨hb, ho⟩
    obtain ⟨_, c0, c1, c2, c3, c4⟩ := hb
    obtain ⟨_, q0, q1, q2, q3, q4, q5, q6⟩ := ho
    rw [hoa] at c2
    simp only at q0 q1 q2 q3 q4 q5
    go_simp
  try simp only [Act.put]
  refine tillK_take (i := 3) (v := .pointer (some ⟨x, 2, none⟩)) rfl (by kernel_rfl) (by kernel_rfl) (by kernel_rfl) (by kernel_rfl) (by kernel_rfl) (by kernel_rfl) (fun _ _ _ h => h) (Or.inl ⟨by rfl, ?hyc_3⟩) (by assumption) ?restc_3
  case hyc_3 =>
    rintro w' ⟨hb, ho⟩
    obtain ⟨_, c0, c1, c2, c3, c4⟩ := hb
    obtain ⟨_, q0, q1, q2, q3, q4, q5, q6⟩ := ho
    rw [hoa] at c2
    simp only at q0 q1 q2 q3 q4 q5
    go_simp
  try simp only [Act.put]
  refine tillK_take (i := 4) (v := .slice (some ⟨g, 0, none⟩) s.opn.length A.oc) rfl (by kernel_rfl) (by kernel_rfl) (by kernel_rfl) (by kernel_rfl) (by kernel_rfl) (by kernel_rfl) (fun _ _ _ h => h) (Or.inl ⟨by rfl, ?hyc_4⟩) (by assumption) ?restc_4
  case hyc_4 =>
    rintro w' ⟨hb, ho⟩
    obtain ⟨_, c0, c1, c2, c3, c4⟩ := hb
    obtain ⟨_, q0, q1, q2, q3, q4, q5, q6⟩ := ho
    rw [hoa] at c2
    simp only at q0 q1 q2 q3 q4 q5
    go_simp
  try simp only [Act.put]
  refine tillK_take (i := 5) (v := .int .i64 j) rfl (by kernel_rfl) (by kernel_rfl) (by kernel_rfl) (by kernel_rfl) (by kernel_rfl) (by kernel_rfl) (fun _ _ _ h => h) (Or.inl ⟨by rfl, ?hyc_5⟩) (by assumption) ?restc_5
  case hyc_5 =>
    rintro w' ⟨hb, ho⟩
    obtain ⟨_, c0, c1, c2, c3, c4⟩ := hb
    obtain ⟨_, q0, q1, q2, q3, q4, q5, q6⟩ := ho
    rw [hoa] at c2
    simp only at q0 q1 q2 q3 q4 q5
    go_simp
  try simp only [Act.put]
  refine tillK_take (i := 6) (v := .pointer (some ⟨x + 1, 4, none⟩)) rfl (by kernel_rfl) (by kernel_rfl) (by kernel_rfl) (by kernel_rfl) (by kernel_rfl) (by kernel_rfl) (fun _ _ _ h => h) (Or.inl ⟨by rfl, ?hyc_6⟩) (by assumption) ?restc_6
  case hyc_6 =>
    rintro w' ⟨hb, ho⟩
    obtain ⟨_, c0, c1, c2, c3, c4⟩ := hb
    obtain ⟨_, q0, q1, q2, q3, q4, q5, q6⟩ := ho
    rw [hoa] at c2
    simp only at q0 q1 q2 q3 q4 q5
    go_simp
  try simp only [Act.put]
  refine tillK_take (i := 7) (v := .slice a P.length c) rfl (by kernel_rfl) (by kernel_rfl) (by kernel_rfl) (by kernel_rfl) (by kernel_rfl) (by kernel_rfl) (fun _ _ _ h => h) (Or.inl ⟨by rfl, ?hyc_7⟩) (by assumption) ?restc_7
  case hyc_7 =>
    rintro w' ⟨hb, ho⟩
    obtain ⟨_, c0, c1, c2, c3, c4⟩ := hb
    obtain ⟨_, q0, q1, q2, q3, q4, q5, q6⟩ := ho
    rw [hoa] at c2
    simp only at q0 q1 q2 q3 q4 q5
    go_simp
  try simp only [Act.put]
  refine tillK_step (i := 8) (by kernel_rfl) rfl (by rfl) ?_
  intro Kc_8 hKc_8
  have HKc_8 := Lib.hid hKc_8
  clear hKc_8
  go_wp2_with fail
  refine (HCL.out _ HB3d.out).mono ?_
  rintro e w5 ⟨ap, cp, rfl, q5, b5, l5⟩
  have b6 := (Below.refl w3.heap.size w3).drew.trans b5
  have hB5 := HB3d.out.trans (b5.mono HB3d.out.size)
  have S5 : BS w5 x s A ∧ OB w5 (x + 1) ⟨kd, ⟨ta, ti⟩, key, P, cm⟩ a c u := ⟨HP3.out.bs.later b6, HP3.out.ob.later b6⟩
  have HR5 := Lib.hid (HR3.out.later HR3.out.size b6)
  have HC5 := Lib.hid (HC.out.later hB5)
  have hd5 := HD.out.later hB5
  obtain ⟨_, _, e7, R7, _, m7, M7⟩ := q5.form puT
  injection e7 with e7 g7 f7
  clear g7
  subst e7 f7
  have hz5 : x + 1 + 1 + 1 + 1 ≤ w5.heap.size := by have := hB5.size; have := HSZ.out; omega
  have hz3 : x + 1 + 1 + 1 + 1 ≤ w3.drew.heap.size := by have := HB3d.out.size; have := HSZ.out; omega
  obtain ⟨w6, hw6⟩ : ∃ V, w5.setCell ⟨g, j * 5 + 2, none⟩ (.bool true) = V := ⟨_, rfl⟩
  obtain ⟨w7, hw7⟩ : ∃ V, w6.setCell ⟨g, j * 5 + 4, none⟩ (.slice ap P.length cp) = V := ⟨_, rfl⟩
  have hg6 : w5.grownBy w6 (some g) := hw6 ▸ sc_one _ _ _ _
  have hg7 : w5.grownBy w7 (some g) := grown_trans hg6 (hw7 ▸ sc_one _ _ _ _)
  have p1 := hd5.put1 sopT (o := 2) (y := ⟨⟨⟨ya, yi⟩, true, yw, yp⟩, pa, pc⟩) (u := .bool true) hy rfl (fun t ht => by rcases t with _ | _ | _ | _ | _ | t <;> first | rfl | exact absurd rfl ht)
  rw [hw6] at p1
  have hjm := (List.getElem?_eq_some_iff.1 hy).1
  have p2 := p1.put1 sopT (o := 4) (i := j) (x := ⟨⟨⟨ya, yi⟩, true, yw, yp⟩, pa, pc⟩) (y := ⟨⟨⟨ya, yi⟩, true, yw, P⟩, ap, cp⟩) (u := .slice ap P.length cp) (by rw [List.getElem?_set, if_pos rfl, if_pos hjm]) rfl (fun t ht => by rcases t with _ | _ | _ | _ | _ | t <;> first | rfl | exact absurd rfl ht)
  rw [hw7, List.set_set] at p2
  have S6 : BS w6 x s A ∧ OB w6 (x + 1) ⟨kd, ⟨ta, ti⟩, key, P, cm⟩ a c u := ⟨S5.1.grown hg6 (by omega), S5.2.grown hg6 (by omega)⟩
  obtain ⟨b2, o2, e2, _, _, _, r2, _, _⟩ := Sop.cells hd5.row hy
  obtain ⟨b3, o3, e3, _, _, _, _, _, r4⟩ := Sop.cells p1.row (k := j) (y := ⟨⟨⟨ya, yi⟩, true, yw, yp⟩, pa, pc⟩) (by rw [List.getElem?_set, if_pos rfl, if_pos hjm])
  cases e2
  cases e3
  simp only [Nat.zero_add] at r2 r4
  have z2 := hd5.fz (j * 5 + 2)
  have z4 := p1.fz (j * 5 + 4)
  obtain ⟨n1, n2, n3, n4⟩ := HC5.out.so _ hoa
  simp only at n1 n2 n3 n4
  have hpl : (prpS ⟨ta, ti⟩ P s.opn).length = s.opn.length := by rw [← HPRP.out, List.length_set]
  have hm7 : ShM w7 ⟨s.rows, s.holds, prpS ⟨ta, ti⟩ P s.opn, s.done, s.ver⟩ ⟨A.ra, A.rc, A.ha, A.hc, A.oa, A.oc, A.om.set j ⟨⟨⟨ya, yi⟩, true, yw, P⟩, ap, cp⟩, A.da, A.dc⟩ := by
    have hm := HC5.out.m
    refine ⟨rw_grown hm.rows hg7 (n1.nb _), rw_grown hm.holds hg7 (n2.nb _), ?_, ?_, fun z hz => ?_, rw_grown hm.done hg7 (n3.nb _), ⟨hm.cp.r, hm.cp.h, ?_, hm.cp.d, fun z hz => ?_⟩⟩
    · rw [List.map_set, hm.om]; exact HPRP.out
    · simp only [hoa]; exact p2.row
    · rcases List.mem_or_eq_of_mem_set hz with h | h
      · exact rw_grown (hm.puts z h) hg7 ((n4 z h).nb _)
      · rw [h]
        exact rw_grown R7 hg7 (fun h0 q hq e => by have := (l5 q hq).1; omega)
    · simp only [hpl]; exact hm.cp.o
    · rcases List.mem_or_eq_of_mem_set hz with h | h
      · exact hm.cp.p z h
      · rw [h]; exact ⟨m7, M7⟩
  have hbs7 : BS w7 x ⟨s.rows, s.holds, prpS ⟨ta, ti⟩ P s.opn, s.done, s.ver⟩ ⟨A.ra, A.rc, A.ha, A.hc, A.oa, A.oc, A.om.set j ⟨⟨⟨ya, yi⟩, true, yw, P⟩, ap, cp⟩, A.da, A.dc⟩ := by
    obtain ⟨h0, h1, h2, h3, h4, h5⟩ := S5.1.grown hg7 (by omega)
    exact ⟨h0, h1, h2, by simp only [hpl]; exact h3, h4, h5⟩
  have hB7 : B ≤ g := HBG.out
  have HR7 := Lib.hid (HR5.out.grown hg7 hB7 (by omega) (by omega))
  obtain ⟨s7, hs7⟩ : ∃ z : Sh, (⟨s.rows, s.holds, prpS ⟨ta, ti⟩ P s.opn, s.done, s.ver⟩ : Sh) = z := ⟨_, rfl⟩
  obtain ⟨A7, hA7⟩ : ∃ z : Sad, (⟨A.ra, A.rc, A.ha, A.hc, A.oa, A.oc, A.om.set j ⟨⟨⟨ya, yi⟩, true, yw, P⟩, ap, cp⟩, A.da, A.dc⟩ : Sad) = z := ⟨_, rfl⟩
  rw [hs7, hA7] at hm7 hbs7
  have HE7 := Lib.hid (show r = (s7, ansE 0) from by rw [← hs7]; exact HE.out)
  have HFI := Lib.hid (OrB.mk' (r := (s7, ansE 0)) HR7.out hm7)
  have HBS7 := Lib.hid hbs7
  have HW6 := Lib.hid hw6
  have HW7 := Lib.hid hw7
  clear hs7 hA7 hm7 hbs7 hpl n1 n2 n3 n4 p1 p2 hd5 hg6 hg7 R7 m7 M7 l5 q5 b5 b6 hB5 hz5 hz3 hjm hB7 S0 hw6 hw7
  dsimp only
  refine HKc_8.out.out _ _ (fun _ => S5) ?_
  refine tillK_step (i := 9) (by kernel_rfl) rfl (by rfl) ?_
  intro Kc_9 hKc_9
  have HKc_9 := Lib.hid hKc_9
  clear hKc_9
  go_wp2_with fail
  refine HKc_9.out.out _ _ (fun _ => S5) ?_
  refine tillK_step (i := 10) (by kernel_rfl) rfl (by rfl) ?_
  intro Kc_10 hKc_10
  have HKc_10 := Lib.hid hKc_10
  clear hKc_10
  go_wp2_with fail
  refine HKc_10.out.out _ _ (fun _ => S5) ?_
  refine tillK_step (i := 11) (by kernel_rfl) rfl (by rfl) ?_
  intro Kc_11 hKc_11
  have HKc_11 := Lib.hid hKc_11
  clear hKc_11
  go_wp2_with fail
  rw [HW6.out]
  refine HKc_11.out.out _ _ (fun _ => S6) ?_
  refine tillK_step (i := 12) (by kernel_rfl) rfl (by rfl) ?_
  intro Kc_12 hKc_12
  have HKc_12 := Lib.hid hKc_12
  clear hKc_12
  go_wp2_with fail
  refine HKc_12.out.out _ _ (fun _ => S6) ?_
  refine tillK_step (i := 13) (by kernel_rfl) rfl (by rfl) ?_
  intro Kc_13 hKc_13
  have HKc_13 := Lib.hid hKc_13
  clear hKc_13
  go_wp2_with fail
  refine HKc_13.out.out _ _ (fun _ => S6) ?_
  refine tillK_step (i := 14) (by kernel_rfl) rfl (by rfl) ?_
  intro Kc_14 hKc_14
  have HKc_14 := Lib.hid hKc_14
  clear hKc_14
  go_wp2_with fail
  rw [HW7.out]
  refine HKc_14.out.out _ _ (fun h => by simp at h) ?_
  refine tillK_done (by kernel_rfl) ?_
  clear S5 S6 r2 r4 z2 z4 HKc_8 HKc_9 HKc_10 HKc_11 HKc_12 HKc_13 HKc_14
  obtain ⟨_, c0, c1, c2, c3, c4⟩ := HBS7.out
  obtain ⟨u0, e0⟩ := HR7.out.s.so 0 (by decide)
  obtain ⟨u1, e1⟩ := HR7.out.s.so 1 (by decide)
  obtain ⟨u2, e2⟩ := HR7.out.s.so 2 (by decide)
  obtain ⟨u3, e3⟩ := HR7.out.s.so 3 (by decide)
  obtain ⟨u4, e4⟩ := HR7.out.s.so 4 (by decide)
  obtain ⟨v0, g0⟩ := HR7.out.a.so 0 (by decide)
  obtain ⟨v1, g1⟩ := HR7.out.a.so 1 (by decide)
  obtain ⟨v2, g2⟩ := HR7.out.a.so 2 (by decide)
  obtain ⟨v3, g3⟩ := HR7.out.a.so 3 (by decide)
  obtain ⟨v4, g4⟩ := HR7.out.a.so 4 (by decide)
  have f4 := HR7.out.s.fz
  have f5 := HR7.out.a.fz
  go_wp2_with fail
  refine bodyPost_ret (v := .tuple #[shV s7 A7, ansV (ansE 0)]) (by simp [results, Try.results20, go_sem, e0, e1, e2, e3, e4, g0, g1, g2, g3, g4, ansE]) rfl ?_
  rw [HE7.out]
  exact HFI.out _ rfl
end Go.Proofs.Ythgnecggdlamfaa
