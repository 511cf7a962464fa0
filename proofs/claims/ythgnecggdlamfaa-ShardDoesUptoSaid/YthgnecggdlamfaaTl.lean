/- The program's access. -/
import Derived.Test.YthgnecggdlamfaaTq
import Derived.Test.YthgnecggdlamfaaHk
namespace Go.Proofs.Ythgnecggdlamfaa
open Go.RowKit

set_option maxRecDepth 100000 in
set_option maxHeartbeats 8000000 in
theorem access_any (B : Nat) (s : Sh) (A : Sad) (o : Odr) (a : Option Addr) (c : Nat) (q : Option Addr) (qn qc : Nat) (w : World) (hC : ShC B w s A) (hB : B ≤ w.heap.size) (zs : SzS s) (zo : SzO o) :
    Calls Try.prog 19 #[shV s A, odrV o a c (.slice q qn qc)] w (OrB B w (asksS s o)) := by
  obtain ⟨u, hu⟩ : ∃ u, Value.slice q qn qc = u := ⟨_, rfl⟩
  rw [hu]
  clear hu
  obtain ⟨W, hW⟩ : ∃ W, doW w s A o a c u = W := ⟨_, rfl⟩
  obtain ⟨x, hx⟩ : ∃ x, w.heap.size = x := ⟨_, rfl⟩
  obtain ⟨hS, hO, hR, hBW, hsz⟩ := four hW hx
  have hol : s.opn.length ≤ 140737488351232 := by have := zs.olen; omega
  have hdl : s.done.length ≤ 140737488351232 := by have := zs.dlen; omega
  have HP := Lib.hid (show PB x s A o a c u W from ⟨hS, hO, hC.m.later hBW⟩)
  have HR := Lib.hid (show RsC B w W (x + 1 + 1) (x + 1 + 1 + 1) from ⟨hR.s, hR.a, Nat.le_trans hB hR.l4, hR.l5, hR.b.mono hB⟩)
  have HC := Lib.hid (hC.later hBW)
  have HALL := Lib.hid (fun b hb => (hC.all b hb).mono (Nat.le_refl _) (Nat.le_of_eq hx))
  have HBX := Lib.hid (show B ≤ x from hx ▸ hB)
  have HDA := Lib.hid (fun w' (h : Below W.heap.size W w') => doneAt_any s A o.t w' ((hC.m.later hBW).later h) hdl)
  have HOA := Lib.hid (fun w' (h : Below W.heap.size W w') => openAt_any s A o.t w' ((hC.m.later hBW).later h) hol)
  have HMA := Lib.hid (fun w' (h : Below W.heap.size W w') => mayAccess_any s A o a c u w' ((hC.m.later hBW).later h) zs zo.ok.1)
  have HFM := Lib.hid (fun w' (h : Below W.heap.size W w') => firm_any s A w' ((hC.m.later hBW).later h) zs.olen)
  have HAK := Lib.hid (fun w' (h : Below W.heap.size W w') (wb : Bool) (b3 : Option Addr) (c3 : Nat) (hF : Txs w' b3 (firmS s.opn)) => pAsk_any s.holds.length A.hc (firmS s.opn).length c3 A.ha b3 s.holds o.t o.key wb (firmS s.opn) rfl zs.hlen zs.hold zo.ok rfl (by have := firmS_len s.opn; have := zs.olen; omega) (fun t ht => by obtain ⟨y, hy, rfl⟩ := firmS_mem ht; exact (zs.opn y hy).1) w' ((hC.m.holds.later hBW).later h) hF)
  have HZ := Lib.hid zs
  have HZO := Lib.hid zo
  have HW := Lib.hid hW
  have HX := Lib.hid hx
  have HSZ := Lib.hid hsz
  obtain ⟨kd, ⟨ta, ti⟩, key, P, cm⟩ := o
  obtain ⟨r, hr⟩ : ∃ r, asksS s ⟨kd, ⟨ta, ti⟩, key, P, cm⟩ = r := ⟨_, rfl⟩
  rw [hr]
  have HRR := Lib.hid hr
  obtain ⟨_, q0, q1, q2, q3, q4, q5, q6⟩ := hO
  obtain ⟨_, c0, c1, c2, c3, c4⟩ := hS
  simp only at q0 q1 q2 q3 q4 q5 HDA HOA
  clear hC hB zs zo hR hBW hsz hW hx hr
  go_enter Try.func19, Try.ntmps19
  go_wp2_with fail
  have hWX := HW.out
  simp only [doW] at hWX
  rw [hWX, HX.out]
  clear hWX
  go_wp2_with fail
  refine (HDA.out W (Below.refl _ _)).mono ?_
  rintro e w1 ⟨rfl, hb1⟩
  have HB1 := Lib.hid hb1
  have HP1 := Lib.hid (HP.out.later hb1)
  have HR1 := Lib.hid (HR.out.later HR.out.size hb1)
  clear hb1 c0 c1 c2 c3 c4 q0 q1 q2 q3 q4 q5 q6
  rcases oix_ovr ⟨ta, ti⟩ s.done 0 with ⟨h3, h4⟩ | ⟨j, y, h3, hx, h5⟩
  case inr =>
    rw [h3, Nat.zero_add]
    have hr1 := HRR.out.symm.trans (asks_over h5)
    have hjl := (List.getElem?_eq_some_iff.1 hx).1
    obtain ⟨b, off, hda, _, _, _, _⟩ := Sdn.cells HP1.out.m.done hx
    have i0 : (0 : Int) ≤ (j : Int) := by omega
    have i1 : (j : Int) < (s.done.length : Int) := by omega
    have gI : ixI (some j) = (j : Int) := rfl
    rw [gI]
    obtain ⟨⟨xa, xi⟩, xc⟩ := y
    clear gI h3 h5 hjl
    go_upto_region 3 with (fail)
    refine tillK_begin (S := PB x s A ⟨kd, ⟨ta, ti⟩, key, P, cm⟩ a c u) (k := 8) (by kernel_rfl) ?_
    have S0 : PB x s A ⟨kd, ⟨ta, ti⟩, key, P, cm⟩ a c u w1.drew := HP1.out.later (Below.refl _ _).drew
    refine tillK_take (i := 0) (v := .agg #[.slice A.ra s.rows.length A.rc, .slice A.ha s.holds.length A.hc, .slice A.oa s.opn.length A.oc, .slice (some ⟨b, off, none⟩) s.done.length A.dc, .int .u64 (s.ver : Nat)]) rfl (by kernel_rfl) (by kernel_rfl) (by kernel_rfl) (by kernel_rfl) (by kernel_rfl) (by kernel_rfl) (fun _ _ _ h => h) (Or.inl ⟨by rfl, ?hya_0⟩) (by assumption) ?resta_0
    case hya_0 =>
      rintro w' ⟨hb, ho, hm⟩
      obtain ⟨_, c0, c1, c2, c3, c4⟩ := hb
      rw [hda] at c3
      go_simp
    try simp only [Act.put, List.setIfInBounds_toArray]
    refine tillK_take (i := 1) (v := .pointer (some ⟨x, 3, none⟩)) rfl (by kernel_rfl) (by kernel_rfl) (by kernel_rfl) (by kernel_rfl) (by kernel_rfl) (by kernel_rfl) (fun _ _ _ h => h) (Or.inl ⟨by rfl, ?hya_1⟩) (by assumption) ?resta_1
    case hya_1 =>
      rintro w' ⟨hb, ho, hm⟩
      obtain ⟨_, c0, c1, c2, c3, c4⟩ := hb
      rw [hda] at c3
      go_simp
    try simp only [Act.put]
    refine tillK_take (i := 2) (v := .slice (some ⟨b, off, none⟩) s.done.length A.dc) rfl (by kernel_rfl) (by kernel_rfl) (by kernel_rfl) (by kernel_rfl) (by kernel_rfl) (by kernel_rfl) (fun _ _ _ h => h) (Or.inl ⟨by rfl, ?hya_2⟩) (by assumption) ?resta_2
    case hya_2 =>
      rintro w' ⟨hb, ho, hm⟩
      obtain ⟨_, c0, c1, c2, c3, c4⟩ := hb
      rw [hda] at c3
      go_simp
    try simp only [Act.put]
    refine tillK_take (i := 3) (v := .int .i64 j) rfl (by kernel_rfl) (by kernel_rfl) (by kernel_rfl) (by kernel_rfl) (by kernel_rfl) (by kernel_rfl) (fun _ _ _ h => h) (Or.inl ⟨by rfl, ?hya_3⟩) (by assumption) ?resta_3
    case hya_3 =>
      rintro w' ⟨hb, ho, hm⟩
      obtain ⟨_, c0, c1, c2, c3, c4⟩ := hb
      rw [hda] at c3
      go_simp
    try simp only [Act.put]
    refine tillK_take (i := 4) (v := .pointer (some ⟨b, off + j * 3, none⟩)) rfl (by kernel_rfl) (by kernel_rfl) (by kernel_rfl) (by kernel_rfl) (by kernel_rfl) (by kernel_rfl) (fun _ _ _ h => h) (Or.inl ⟨by rfl, ?hya_4⟩) (by assumption) ?resta_4
    case hya_4 =>
      rintro w' ⟨hb, ho, hm⟩
      obtain ⟨_, c0, c1, c2, c3, c4⟩ := hb
      rw [hda] at c3
      go_simp
    try simp only [Act.put]
    refine tillK_take (i := 5) (v := .agg #[.int .u64 (xa : Nat), .int .u64 (xi : Nat), .bool xc]) rfl (by kernel_rfl) (by kernel_rfl) (by kernel_rfl) (by kernel_rfl) (by kernel_rfl) (by kernel_rfl) (fun _ _ _ h => h) (Or.inl ⟨by rfl, ?hya_5⟩) (by assumption) ?resta_5
    case hya_5 =>
      rintro w' ⟨hb, ho, hm⟩
      obtain ⟨_, c0, c1, c2, c3, c4⟩ := hb
      rw [hda] at c3
      obtain ⟨_, p0, p1, p2⟩ := dn_at hm hda hx
      simp only at p0 p1 p2
      clear hm
      go_simp
    try simp only [Act.put]
    refine tillK_step (i := 6) (by kernel_rfl) rfl (by rfl) ?_
    intro Ka_6 hKa_6
    have HKa_6 := Lib.hid hKa_6
    clear hKa_6
    go_wp2_with fail
    refine (tooLate_any ⟨⟨xa, xi⟩, xc⟩ _).mono ?_
    rintro e w2 ⟨rfl, hb2⟩
    have HP2 := Lib.hid (S0.later hb2)
    have HR2 := Lib.hid ((HR1.out.later HR1.out.size (Below.refl _ _).drew).later (HR1.out.later HR1.out.size (Below.refl _ _).drew).size hb2)
    have HFI := Lib.hid (OrB.mk' (r := (s, ansC 13 xc)) HR2.out HP2.out.m)
    have HX4 := Lib.hid (fun v0 v1 v2 v3 v4 (e : sK = [kdV v0, kdV v1, kdV v2, kdV v3, kdV v4]) => HP2.out.set4 HR2.out.s (by omega) v0 v1 v2 v3 v4 e)
    obtain ⟨u0, e0⟩ := HR2.out.s.so 0 (by decide)
    obtain ⟨u1, e1⟩ := HR2.out.s.so 1 (by decide)
    obtain ⟨u2, e2⟩ := HR2.out.s.so 2 (by decide)
    obtain ⟨u3, e3⟩ := HR2.out.s.so 3 (by decide)
    obtain ⟨u4, e4⟩ := HR2.out.s.so 4 (by decide)
    obtain ⟨v0, g0⟩ := HR2.out.a.so 0 (by decide)
    obtain ⟨v1, g1⟩ := HR2.out.a.so 1 (by decide)
    obtain ⟨v2, g2⟩ := HR2.out.a.so 2 (by decide)
    obtain ⟨v3, g3⟩ := HR2.out.a.so 3 (by decide)
    obtain ⟨v4, g4⟩ := HR2.out.a.so 4 (by decide)
    have f4 := HR2.out.s.fz
    have f5 := HR2.out.a.fz
    clear hb2
    dsimp only
    refine HKa_6.out.out _ _ (fun _ => HP2.out) ?_
    refine tillK_step (i := 7) (by kernel_rfl) rfl (by rfl) ?_
    intro Ka_7 hKa_7
    have HKa_7 := Lib.hid hKa_7
    clear hKa_7
    go_wp2_with fail
    refine HKa_7.out.out _ _ (fun _ => HX4.out _ _ _ _ _ rfl) ?_
    refine tillK_step (i := 8) (by kernel_rfl) rfl (by rfl) ?_
    intro Ka_8 hKa_8
    have HKa_8 := Lib.hid hKa_8
    clear hKa_8
    go_wp2_with fail
    refine HKa_8.out.out _ _ (fun h => by simp at h) ?_
    refine tillK_done (by kernel_rfl) ?_
    go_wp2_with fail
    rw [hda] at HFI
    refine bodyPost_ret (v := .tuple #[shV s A, ansV (ansC 13 xc)]) (by simp [results, Try.results19, go_sem, e0, e1, e2, e3, e4, g0, g1, g2, g3, g4, ansC, hda]) rfl ?_
    rw [hr1]
    exact HFI.out _ rfl
  rw [h3]
  have gI : ixI none = -1 := rfl
  rw [gI]
  have HOV := Lib.hid h4
  obtain ⟨_, c0, c1, c2, c3, c4⟩ := HP1.out.bs
  obtain ⟨_, q0, q1, q2, q3, q4, q5, q6⟩ := HP1.out.ob
  simp only at q0 q1 q2 q3 q4 q5
  clear gI h3 h4
  go_wp2_with fail
  refine (HMA.out w1 HB1.out).mono ?_
  rintro e w2 ⟨rfl, hb2⟩
  have HB2 := Lib.hid (HB1.out.trans (hb2.mono HB1.out.size))
  have HP2 := Lib.hid (HP1.out.later hb2)
  have HR2 := Lib.hid (HR1.out.later HR1.out.size hb2)
  obtain ⟨m, hm⟩ : ∃ m, mayA s ⟨kd, ⟨ta, ti⟩, key, P, cm⟩ = m := ⟨_, rfl⟩
  rw [hm]
  clear hb2 c0 c1 c2 c3 c4 q0 q1 q2 q3 q4 q5 q6
  by_cases hm0 : m = 0
  case neg =>
    have hr1 := HRR.out.symm.trans (asks_may HOV.out (by rw [hm]; exact hm0))
    rw [hm] at hr1
    have HE := Lib.hid hr1
    have g1 : ((m : Int) == 0) = false := by simp; omega
    have g2 : ((m : Int) != 0) = true := by simp; omega
    have HFI := Lib.hid (OrB.mk' (r := (s, ansE m)) HR2.out HP2.out.m)
    obtain ⟨_, c0, c1, c2, c3, c4⟩ := HP2.out.bs
    obtain ⟨u0, e0⟩ := HR2.out.s.so 0 (by decide)
    obtain ⟨u1, e1⟩ := HR2.out.s.so 1 (by decide)
    obtain ⟨u2, e2⟩ := HR2.out.s.so 2 (by decide)
    obtain ⟨u3, e3⟩ := HR2.out.s.so 3 (by decide)
    obtain ⟨u4, e4⟩ := HR2.out.s.so 4 (by decide)
    obtain ⟨v0, g0⟩ := HR2.out.a.so 0 (by decide)
    obtain ⟨v1, g1⟩ := HR2.out.a.so 1 (by decide)
    obtain ⟨v2, g2⟩ := HR2.out.a.so 2 (by decide)
    obtain ⟨v3, g3⟩ := HR2.out.a.so 3 (by decide)
    obtain ⟨v4, g4⟩ := HR2.out.a.so 4 (by decide)
    have f4 := HR2.out.s.fz
    have f5 := HR2.out.a.fz
    clear hr1 hm hm0
    go_wp2_with fail
    refine bodyPost_ret (v := .tuple #[shV s A, ansV (ansE m)]) (by simp [results, Try.results19, go_sem, e0, e1, e2, e3, e4, g0, g1, g2, g3, g4, ansE]) rfl ?_
    rw [HE.out]
    exact HFI.out _ rfl
  subst hm0
  obtain ⟨wb, hwb⟩ : ∃ wb, (kd == 2) = wb := ⟨_, rfl⟩
  have hwb2 : decide (kd = 2) = wb := by rw [← hwb]; rfl
  obtain ⟨ak, hak⟩ : ∃ k, askH s.holds ⟨ta, ti⟩ key wb (firmS s.opn) = k := ⟨_, rfl⟩
  obtain ⟨L2, out, ce⟩ := ak
  have hr2 := HRR.out.symm.trans (asks_ask (L := L2) (out := out) (e := ce) HOV.out hm (by simp only; rw [hwb2]; exact hak))
  have HE := Lib.hid hr2
  have HAE := Lib.hid hak
  clear hm hr2 hak hwb2
  go_upto_region 7 with (fail)
  refine tillK_begin (S := PB x s A ⟨kd, ⟨ta, ti⟩, key, P, cm⟩ a c u) (k := 18) (by kernel_rfl) ?_
  have S0 : PB x s A ⟨kd, ⟨ta, ti⟩, key, P, cm⟩ a c u w2.drew := HP2.out.later (Below.refl _ _).drew
  have HB2d := Lib.hid (show Below W.heap.size W w2.drew from HB2.out.trans ((Below.refl w2.heap.size w2).drew.mono HB2.out.size))
  refine tillK_take (i := 0) (v := .pointer (some ⟨x, 1, none⟩)) rfl (by kernel_rfl) (by kernel_rfl) (by kernel_rfl) (by kernel_rfl) (by kernel_rfl) (by kernel_rfl) (fun _ _ _ h => h) (Or.inl ⟨by rfl, ?hyb_0⟩) (by assumption) ?restb_0
  case hyb_0 =>
    rintro w' ⟨hb, ho, hm⟩
    obtain ⟨_, c0, c1, c2, c3, c4⟩ := hb
    obtain ⟨_, q0, q1, q2, q3, q4, q5, q6⟩ := ho
    simp only at q0 q1 q2 q3 q4 q5
    go_simp
  try simp only [Act.put, List.setIfInBounds_toArray]
  refine tillK_take (i := 1) (v := .slice A.ha s.holds.length A.hc) rfl (by kernel_rfl) (by kernel_rfl) (by kernel_rfl) (by kernel_rfl) (by kernel_rfl) (by kernel_rfl) (fun _ _ _ h => h) (Or.inl ⟨by rfl, ?hyb_1⟩) (by assumption) ?restb_1
  case hyb_1 =>
    rintro w' ⟨hb, ho, hm⟩
    obtain ⟨_, c0, c1, c2, c3, c4⟩ := hb
    obtain ⟨_, q0, q1, q2, q3, q4, q5, q6⟩ := ho
    simp only at q0 q1 q2 q3 q4 q5
    go_simp
  try simp only [Act.put]
  refine tillK_take (i := 2) (v := .pointer (some ⟨x + 1, 1, none⟩)) rfl (by kernel_rfl) (by kernel_rfl) (by kernel_rfl) (by kernel_rfl) (by kernel_rfl) (by kernel_rfl) (fun _ _ _ h => h) (Or.inl ⟨by rfl, ?hyb_2⟩) (by assumption) ?restb_2
  case hyb_2 =>
    rintro w' ⟨hb, ho, hm⟩
    obtain ⟨_, c0, c1, c2, c3, c4⟩ := hb
    obtain ⟨_, q0, q1, q2, q3, q4, q5, q6⟩ := ho
    simp only at q0 q1 q2 q3 q4 q5
    go_simp
  try simp only [Act.put]
  refine tillK_take (i := 3) (v := .agg #[.int .u64 (ta : Nat), .int .u64 (ti : Nat)]) rfl (by kernel_rfl) (by kernel_rfl) (by kernel_rfl) (by kernel_rfl) (by kernel_rfl) (by kernel_rfl) (fun _ _ _ h => h) (Or.inl ⟨by rfl, ?hyb_3⟩) (by assumption) ?restb_3
  case hyb_3 =>
    rintro w' ⟨hb, ho, hm⟩
    obtain ⟨_, c0, c1, c2, c3, c4⟩ := hb
    obtain ⟨_, q0, q1, q2, q3, q4, q5, q6⟩ := ho
    simp only at q0 q1 q2 q3 q4 q5
    go_simp
  try simp only [Act.put]
  refine tillK_take (i := 4) (v := .pointer (some ⟨x + 1, 3, none⟩)) rfl (by kernel_rfl) (by kernel_rfl) (by kernel_rfl) (by kernel_rfl) (by kernel_rfl) (by kernel_rfl) (fun _ _ _ h => h) (Or.inl ⟨by rfl, ?hyb_4⟩) (by assumption) ?restb_4
  case hyb_4 =>
    rintro w' ⟨hb, ho, hm⟩
    obtain ⟨_, c0, c1, c2, c3, c4⟩ := hb
    obtain ⟨_, q0, q1, q2, q3, q4, q5, q6⟩ := ho
    simp only at q0 q1 q2 q3 q4 q5
    go_simp
  try simp only [Act.put]
  refine tillK_take (i := 5) (v := .string key) rfl (by kernel_rfl) (by kernel_rfl) (by kernel_rfl) (by kernel_rfl) (by kernel_rfl) (by kernel_rfl) (fun _ _ _ h => h) (Or.inl ⟨by rfl, ?hyb_5⟩) (by assumption) ?restb_5
  case hyb_5 =>
    rintro w' ⟨hb, ho, hm⟩
    obtain ⟨_, c0, c1, c2, c3, c4⟩ := hb
    obtain ⟨_, q0, q1, q2, q3, q4, q5, q6⟩ := ho
    simp only at q0 q1 q2 q3 q4 q5
    go_simp
  try simp only [Act.put]
  refine tillK_take (i := 6) (v := .pointer (some ⟨x + 1, 0, none⟩)) rfl (by kernel_rfl) (by kernel_rfl) (by kernel_rfl) (by kernel_rfl) (by kernel_rfl) (by kernel_rfl) (fun _ _ _ h => h) (Or.inl ⟨by rfl, ?hyb_6⟩) (by assumption) ?restb_6
  case hyb_6 =>
    rintro w' ⟨hb, ho, hm⟩
    obtain ⟨_, c0, c1, c2, c3, c4⟩ := hb
    obtain ⟨_, q0, q1, q2, q3, q4, q5, q6⟩ := ho
    simp only at q0 q1 q2 q3 q4 q5
    go_simp
  try simp only [Act.put]
  refine tillK_take (i := 7) (v := .int .i64 kd) rfl (by kernel_rfl) (by kernel_rfl) (by kernel_rfl) (by kernel_rfl) (by kernel_rfl) (by kernel_rfl) (fun _ _ _ h => h) (Or.inl ⟨by rfl, ?hyb_7⟩) (by assumption) ?restb_7
  case hyb_7 =>
    rintro w' ⟨hb, ho, hm⟩
    obtain ⟨_, c0, c1, c2, c3, c4⟩ := hb
    obtain ⟨_, q0, q1, q2, q3, q4, q5, q6⟩ := ho
    simp only at q0 q1 q2 q3 q4 q5
    go_simp
  try simp only [Act.put]
  refine tillK_take (i := 8) (v := .bool wb) rfl (by kernel_rfl) (by kernel_rfl) (by kernel_rfl) (by kernel_rfl) (by kernel_rfl) (by kernel_rfl) (fun _ _ _ h => h) (Or.inl ⟨by rfl, ?hyb_8⟩) (by assumption) ?restb_8
  case hyb_8 =>
    rintro w' ⟨hb, ho, hm⟩
    obtain ⟨_, c0, c1, c2, c3, c4⟩ := hb
    obtain ⟨_, q0, q1, q2, q3, q4, q5, q6⟩ := ho
    simp only at q0 q1 q2 q3 q4 q5
    go_simp
  try simp only [Act.put]
  refine tillK_take (i := 9) (v := .agg #[.slice A.ra s.rows.length A.rc, .slice A.ha s.holds.length A.hc, .slice A.oa s.opn.length A.oc, .slice A.da s.done.length A.dc, .int .u64 (s.ver : Nat)]) rfl (by kernel_rfl) (by kernel_rfl) (by kernel_rfl) (by kernel_rfl) (by kernel_rfl) (by kernel_rfl) (fun _ _ _ h => h) (Or.inl ⟨by rfl, ?hyb_9⟩) (by assumption) ?restb_9
  case hyb_9 =>
    rintro w' ⟨hb, ho, hm⟩
    obtain ⟨_, c0, c1, c2, c3, c4⟩ := hb
    obtain ⟨_, q0, q1, q2, q3, q4, q5, q6⟩ := ho
    simp only at q0 q1 q2 q3 q4 q5
    go_simp
  try simp only [Act.put]
  refine tillK_step (i := 10) (by kernel_rfl) rfl (by rfl) ?_
  intro Kb_10 hKb_10
  have HKb_10 := Lib.hid hKb_10
  clear hKb_10
  go_wp2_with fail
  refine (HFM.out _ HB2d.out).mono ?_
  rintro e w3 ⟨⟨a3, d3, rfl, hT3⟩, hb3⟩
  have HP3 := Lib.hid (S0.later hb3)
  have HB3 := Lib.hid (HB2d.out.trans (hb3.mono HB2d.out.size))
  have HR3 := Lib.hid (HR2.out.later HR2.out.size ((Below.refl _ _).drew.trans hb3))
  have HT3 := Lib.hid hT3
  have S3 := HP3.out
  clear hT3 hb3 S0
  dsimp only
  refine HKb_10.out.out _ _ (fun _ => HP3.out) ?_
  refine tillK_step (i := 11) (by kernel_rfl) rfl (by rfl) ?_
  intro Kb_11 hKb_11
  have HKb_11 := Lib.hid hKb_11
  clear hKb_11
  go_wp2_with fail
  refine (HAK.out w3 HB3.out wb a3 d3 HT3.out).mono ?_
  rw [HAE.out]
  rintro e w4 ⟨ah, dh, at', dt, rfl, hH4, hl4, hc4, hm4, hT4, hb4⟩
  have HP4 := Lib.hid (HP3.out.later hb4)
  have HB4 := Lib.hid (HB3.out.trans (hb4.mono HB3.out.size))
  have HR4 := Lib.hid (HR3.out.later HR3.out.size hb4)
  have HH4 := Lib.hid hH4
  have HL4 := Lib.hid hl4
  have HC4 := Lib.hid (And.intro hc4 hm4)
  have HT4 := Lib.hid hT4
  have HZ3 := Lib.hid (show x + 1 + 1 + 1 + 1 ≤ w3.heap.size from by have := HB3.out.size; have := HSZ.out; omega)
  have S4 := HP4.out
  simp only at hc4 hl4 hH4 hT4
  clear hH4 hl4 hc4 hm4 hT4 hb4 S3
  dsimp only
  refine HKb_11.out.out _ _ (fun _ => HP4.out) ?_
  refine tillK_take (i := 12) (v := .tuple #[.slice ah L2.length dh, .slice at' out.length dt, .int .i64 (ce : Nat)]) rfl (by kernel_rfl) (by kernel_rfl) (by kernel_rfl) (by kernel_rfl) (by kernel_rfl) (by kernel_rfl) (fun _ _ _ h => h) (Or.inl ⟨by rfl, ?hyb_12⟩) (by assumption) ?restb_12
  case hyb_12 =>
    rintro w' ⟨hb, ho, hm⟩
    obtain ⟨_, c0, c1, c2, c3, c4⟩ := hb
    obtain ⟨_, q0, q1, q2, q3, q4, q5, q6⟩ := ho
    simp only at q0 q1 q2 q3 q4 q5
    go_simp
  try simp only [Act.put, List.setIfInBounds_toArray]
  refine tillK_take (i := 13) (v := .slice ah L2.length dh) rfl (by kernel_rfl) (by kernel_rfl) (by kernel_rfl) (by kernel_rfl) (by kernel_rfl) (by kernel_rfl) (fun _ _ _ h => h) (Or.inl ⟨by rfl, ?hyb_13⟩) (by assumption) ?restb_13
  case hyb_13 =>
    rintro w' ⟨hb, ho, hm⟩
    obtain ⟨_, c0, c1, c2, c3, c4⟩ := hb
    obtain ⟨_, q0, q1, q2, q3, q4, q5, q6⟩ := ho
    simp only at q0 q1 q2 q3 q4 q5
    go_simp
  try simp only [Act.put]
  refine tillK_take (i := 14) (v := .slice at' out.length dt) rfl (by kernel_rfl) (by kernel_rfl) (by kernel_rfl) (by kernel_rfl) (by kernel_rfl) (by kernel_rfl) (fun _ _ _ h => h) (Or.inl ⟨by rfl, ?hyb_14⟩) (by assumption) ?restb_14
  case hyb_14 =>
    rintro w' ⟨hb, ho, hm⟩
    obtain ⟨_, c0, c1, c2, c3, c4⟩ := hb
    obtain ⟨_, q0, q1, q2, q3, q4, q5, q6⟩ := ho
    simp only at q0 q1 q2 q3 q4 q5
    go_simp
  try simp only [Act.put]
  refine tillK_take (i := 15) (v := .int .i64 (ce : Nat)) rfl (by kernel_rfl) (by kernel_rfl) (by kernel_rfl) (by kernel_rfl) (by kernel_rfl) (by kernel_rfl) (fun _ _ _ h => h) (Or.inl ⟨by rfl, ?hyb_15⟩) (by assumption) ?restb_15
  case hyb_15 =>
    rintro w' ⟨hb, ho, hm⟩
    obtain ⟨_, c0, c1, c2, c3, c4⟩ := hb
    obtain ⟨_, q0, q1, q2, q3, q4, q5, q6⟩ := ho
    simp only at q0 q1 q2 q3 q4 q5
    go_simp
  try simp only [Act.put]
  refine tillK_step (i := 16) (by kernel_rfl) rfl (by rfl) ?_
  intro Kb_16 hKb_16
  have HKb_16 := Lib.hid hKb_16
  clear hKb_16
  go_wp2_with fail
  refine HKb_16.out.out _ _ (fun _ => HP4.out) ?_
  refine tillK_step (i := 17) (by kernel_rfl) rfl (by rfl) ?_
  intro Kb_17 hKb_17
  have HKb_17 := Lib.hid hKb_17
  clear hKb_17
  go_wp2_with fail
  refine HKb_17.out.out _ _ (fun _ => HP4.out) ?_
  refine tillK_step (i := 18) (by kernel_rfl) rfl (by rfl) ?_
  intro Kb_18 hKb_18
  have HKb_18 := Lib.hid hKb_18
  clear hKb_18
  go_wp2_with fail
  refine HKb_18.out.out _ _ (fun h => by simp at h) ?_
  refine tillK_done (by kernel_rfl) ?_
  clear S4
  by_cases hce : ce = 0
  case neg =>
    have hr1 := HE.out
    rw [if_pos hce] at hr1
    have HE1 := Lib.hid hr1
    have g1 : ((ce : Int) == 0) = false := by simp; omega
    have g2 : ((ce : Int) != 0) = true := by simp; omega
    have HFI := Lib.hid (OrB.mk' (r := (s, ansE ce)) HR4.out HP4.out.m)
    obtain ⟨_, c0, c1, c2, c3, c4⟩ := HP4.out.bs
    obtain ⟨u0, e0⟩ := HR4.out.s.so 0 (by decide)
    obtain ⟨u1, e1⟩ := HR4.out.s.so 1 (by decide)
    obtain ⟨u2, e2⟩ := HR4.out.s.so 2 (by decide)
    obtain ⟨u3, e3⟩ := HR4.out.s.so 3 (by decide)
    obtain ⟨u4, e4⟩ := HR4.out.s.so 4 (by decide)
    obtain ⟨v0, g0⟩ := HR4.out.a.so 0 (by decide)
    obtain ⟨v1, g1⟩ := HR4.out.a.so 1 (by decide)
    obtain ⟨v2, g2⟩ := HR4.out.a.so 2 (by decide)
    obtain ⟨v3, g3⟩ := HR4.out.a.so 3 (by decide)
    obtain ⟨v4, g4⟩ := HR4.out.a.so 4 (by decide)
    have f4 := HR4.out.s.fz
    have f5 := HR4.out.a.fz
    clear hr1 hce
    go_wp2_with fail
    refine bodyPost_ret (v := .tuple #[shV s A, ansV (ansE ce)]) (by simp [results, Try.results19, go_sem, e0, e1, e2, e3, e4, g0, g1, g2, g3, g4, ansE]) rfl ?_
    rw [HE1.out]
    exact HFI.out _ rfl
  subst hce
  have hr1 := HE.out
  rw [if_neg (by simp)] at hr1
  have HE1 := Lib.hid hr1
  clear hr1
  -- the locks are laid in the shard's box
  obtain ⟨w5, hw5⟩ : ∃ V, w4.setCell ⟨x, 1, none⟩ (.slice ah L2.length dh) = V := ⟨_, rfl⟩
  have hg5 : w4.grownBy w5 (some x) := hw5 ▸ sc_one _ _ _ _
  have hC5 : ShC B w5 s A := (HC.out.later HB4.out).far HALL.out hg5 (Nat.le_refl _)
  have hb5 : BS w5 x ⟨s.rows, L2, s.opn, s.done, s.ver⟩ ⟨A.ra, A.rc, ah, dh, A.oa, A.oc, A.om, A.da, A.dc⟩ := by
    obtain ⟨k0, e0, e1, e2, e3, e4⟩ := HP4.out.bs
    rw [← hw5]
    exact ⟨k0.set rfl, by simp [go_sem, e0], by simp [go_sem, e1], by simp [go_sem, e2], by simp [go_sem, e3], by simp [go_sem, e4]⟩
  have hO5 := HP4.out.ob.grown hg5 (by omega)
  have hR5 := HR4.out.grown hg5 HBX.out (by omega) (by omega)
  have hH5 : Hos w5 ah L2 := rw_grown HH4.out hg5 (Rw.notin HH4.out HP4.out.bs.kb fits_s.ho)
  have hT5 : Txs w5 at' out := rw_grown HT4.out hg5 (Rw.notin HT4.out HP4.out.bs.kb noFit_tx)
  have hz5 : x + 1 + 1 + 1 + 1 ≤ w5.heap.size := by have := HZ3.out; have := HB4.out.size; have := hg5.size; have := HSZ.out; omega
  have hlo : LI A.oa B x := HALL.out _ (.inr (.inr (.inl rfl)))
  obtain ⟨hoko, hoo⟩ := ask_out_ok HZ.out.hold HAE.out
  have hol2 := HZ.out.olen
  have HWO := Lib.hid (wound_any B s.opn.length A.oc out.length dt A.oa at' A.om out (by have := hC5.m.olen; omega) hol rfl (by have := HZ.out.hlen; omega) hoko (fun y hy => by have := HZ.out.opn y.x (by rw [← hC5.m.om]; exact List.mem_map.2 ⟨y, hy, rfl⟩); exact this.1) w5 (by have := HBX.out; omega) hC5.opn hT5)
  obtain ⟨_, c0, c1, c2, c3, c4⟩ := HP4.out.bs
  have f1 := HP4.out.bs.kb.fz
  have HC5 := Lib.hid hC5
  have HBS5 := Lib.hid hb5
  have HO5 := Lib.hid hO5
  have HR5 := Lib.hid hR5
  have HH5 := Lib.hid hH5
  have HZ5 := Lib.hid hz5
  have HLO := Lib.hid hlo
  have HW5 := Lib.hid hw5
  clear hw5 hg5 hC5 hb5 hO5 hR5 hH5 hT5 hz5 hlo hoko hoo hol2 c0 c3 c4
  go_wp2_with fail
  rw [HW5.out]
  clear c1 c2 f1
  refine HWO.out.mono ?_
  rintro e w6 ⟨rfl, hc6, hg6⟩
  obtain ⟨g, hgg, hBg, hgx, n1, n2, n3, n4⟩ := HC5.out.opnG HLO.out hg6 (by have := HBX.out; have := HZ5.out; omega)
  have hz6 := hgg.size
  have hbs6 : BS w6 x ⟨s.rows, L2, s.opn, s.done, s.ver⟩ ⟨A.ra, A.rc, ah, dh, A.oa, A.oc, A.om, A.da, A.dc⟩ := HBS5.out.grown hgg (by have := HZ5.out; omega)
  have hO6 := HO5.out.grown hgg (by have := HZ5.out; omega)
  have hR6 := HR5.out.grown hgg hBg (by have := HZ5.out; omega) (by have := HZ5.out; omega)
  have hH6 : Hos w6 ah L2 := rw_grown HH5.out hgg (fun h0 q hq => by
    have h1 := HL4.out h0 q hq
    have h2 := rw_lt HH5.out h0 q hq
    have h3 := HZ3.out
    rcases hgx with h | h <;> omega)
  have hR6' : Ros w6 A.ra s.rows := rw_grown HC5.out.m.rows hgg (n1.nb _)
  have hD6 : Rw 3 sdnC w6 A.da s.done := rw_grown HC5.out.m.done hgg (n3.nb _)
  obtain ⟨_, _, e6, hO6', _⟩ := hc6.form sopT
  injection e6 with e6 e7 e8
  clear e7 e8
  subst e6
  have hm6 : ShM w6 ⟨s.rows, L2, wndS out s.opn, s.done, s.ver⟩ ⟨A.ra, A.rc, ah, dh, A.oa, A.oc, wnM out A.om, A.da, A.dc⟩ := by
    refine ⟨hR6', hH6, by rw [wnM_x, HC5.out.m.om], hO6', fun y hy => ?_, hD6, ⟨HC5.out.m.cp.r, HC4.out, by rw [wnd_len]; exact HC5.out.m.cp.o, HC5.out.m.cp.d, fun y hy => ?_⟩⟩
    · obtain ⟨z, hz, rfl⟩ := List.mem_map.1 hy
      exact rw_grown (HC5.out.m.puts z hz) hgg ((n4 z hz).nb _)
    · obtain ⟨z, hz, rfl⟩ := List.mem_map.1 hy
      exact HC5.out.m.cp.p z hz
  have hop : Calls Try.prog 45 #[.agg #[.slice A.ra s.rows.length A.rc, .slice ah L2.length dh, .slice A.oa (wndS out s.opn).length A.oc, .slice A.da s.done.length A.dc, .int .u64 (s.ver : Nat)], txV ⟨ta, ti⟩] w6 (fun e w' => e = .returned (.int .i64 (ixI (kixS ⟨ta, ti⟩ 0 (wndS out s.opn)))) ∧ Below w6.heap.size w6 w') := openAt_any ⟨s.rows, L2, wndS out s.opn, s.done, s.ver⟩ ⟨A.ra, A.rc, ah, dh, A.oa, A.oc, wnM out A.om, A.da, A.dc⟩ ⟨ta, ti⟩ w6 hm6 (by rw [wnd_len]; exact hol)
  simp only [wnd_len, kix_wnd] at hop
  have HOP := Lib.hid hop
  have HM6 := Lib.hid hm6
  have HBS6 := Lib.hid hbs6
  have HO6 := Lib.hid hO6
  have HR6 := Lib.hid hR6
  have HC6 := Lib.hid hc6
  have HZ6 := Lib.hid (show x + 1 + 1 + 1 + 1 ≤ w6.heap.size from Nat.le_trans HZ5.out hz6)
  have HN := Lib.hid (And.intro HL4.out HC5.out.so)
  obtain ⟨_, c0, c1, c2, c3, c4⟩ := hbs6
  obtain ⟨_, q0, q1, q2, q3, q4, q5, q6⟩ := hO6
  simp only at q0 q1 q2 q3 q4 q5 c0 c1 c2 c3 c4
  clear hc6 hg6 hgg hBg hgx n1 n2 n3 n4 hz6 hR6 hH6 hR6' hD6 hO6' hm6 hop
  go_wp2_with fail
  refine HOP.out.mono ?_
  rintro e w7 ⟨rfl, hb7⟩
  have HM7 := Lib.hid (HM6.out.later hb7)
  have HBS7 := Lib.hid (HBS6.out.later hb7)
  have HO7 := Lib.hid (HO6.out.later hb7)
  have HR7 := Lib.hid (HR6.out.later HR6.out.size hb7)
  have HC7 := Lib.hid (HC6.out.later hb7)
  have HZ7 := Lib.hid (Nat.le_trans HZ6.out hb7.size)
  have hrl : s.rows.length ≤ 140737488351232 := by have := HZ.out.rlen; omega
  clear hb7 c0 c1 c2 c3 c4 q0 q1 q2 q3 q4 q5 q6
  rcases kix_kno ⟨ta, ti⟩ s.opn 0 with ⟨h3, h4⟩ | ⟨j, y, h3, hy, h5⟩
  · rw [h3]
    have gI : ixI none = -1 := rfl
    rw [gI]
    have hE := HE1.out
    rw [h4] at hE
    simp only [Option.isNone_none, if_true] at hE
    have HEN := Lib.hid hE
    clear gI h3 h4 hE
    have hwl : (wnM out A.om).length = s.opn.length := by unfold wnM; rw [List.length_map]; have := HC5.out.m.olen; omega
    obtain ⟨a8, d8, w8, hr8, hc8, g8, hg8, hl8⟩ := appO B w7 (.slice A.oa s.opn.length A.oc) (wnM out A.om) HC7.out ⟨ta, ti⟩ (by have := HZ.out.olen; omega) (by have := HBX.out; have := HZ7.out; omega)
    rw [hwl] at hr8 hc8
    have hl9 : w7.heap.size ≤ g8 ∨ B ≤ g8 ∧ g8 < x ∧ A.oa = some ⟨g8, 0, none⟩ := by
      rcases hl8 with h | ⟨h, n', c', e⟩
      · exact .inl h
      · injection e with e _ _
        exact .inr ⟨h, (HLO.out _ e).2, e⟩
    have hz7 := HZ7.out
    have hBx := HBX.out
    have hB8 : B ≤ g8 := by rcases hl9 with h | ⟨h, _⟩ <;> omega
    have hbs8 : BS w8 x _ _ := HBS7.out.grown hg8 (by rcases hl9 with h | ⟨_, h, _⟩ <;> omega)
    have hO8 := HO7.out.grown hg8 (by rcases hl9 with h | ⟨_, h, _⟩ <;> omega)
    have hR8 := HR7.out.grown hg8 hB8 (by rcases hl9 with h | ⟨_, h, _⟩ <;> omega) (by rcases hl9 with h | ⟨_, h, _⟩ <;> omega)
    have hm7 := HM7.out
    have p1 : Ros w8 A.ra s.rows := rw_grown hm7.rows hg8 (fun h0 q hq => by
      have h2 := rw_lt hm7.rows h0 q hq
      rcases hl9 with h | ⟨_, _, h⟩
      · omega
      · exact (HN.out.2 _ h).1 q hq)
    have p2 : Hos w8 ah L2 := rw_grown hm7.holds hg8 (fun h0 q hq => by
      have h1 := HN.out.1 h0 q hq
      have h2 := rw_lt hm7.holds h0 q hq
      have h3 := HZ3.out
      rcases hl9 with h | ⟨_, h, _⟩ <;> omega)
    have p3 : Rw 3 sdnC w8 A.da s.done := rw_grown hm7.done hg8 (fun h0 q hq => by
      have h2 := rw_lt hm7.done h0 q hq
      rcases hl9 with h | ⟨_, _, h⟩
      · omega
      · exact (HN.out.2 _ h).2.2.1 q hq)
    have p4 : ∀ y ∈ wnM out A.om, Pus w8 y.a y.x.puts := fun y hy => rw_grown (hm7.puts y hy) hg8 (fun h0 q hq => by
      have h2 := rw_lt (hm7.puts y hy) h0 q hq
      obtain ⟨z, hz, rfl⟩ := List.mem_map.1 hy
      rcases hl9 with h | ⟨_, _, h⟩
      · omega
      · exact (HN.out.2 _ h).2.2.2 z hz q hq)
    obtain ⟨_, _, e8, p5, _, p6, p7⟩ := hc8.form sopT
    injection e8 with e8 e9 e10
    rw [List.length_append, hwl, List.length_singleton] at p6
    rw [← e10] at p6 p7
    clear e9 e10
    subst e8
    have hm8 : ShM w8 ⟨s.rows, L2, wndS out s.opn ++ [⟨⟨ta, ti⟩, false, false, []⟩], s.done, s.ver⟩ ⟨A.ra, A.rc, ah, dh, a8, d8, wnM out A.om ++ [⟨⟨⟨ta, ti⟩, false, false, []⟩, none, 0⟩], A.da, A.dc⟩ := by
      refine ⟨p1, p2, by rw [List.map_append, hm7.om]; rfl, p5, fun y hy => ?_, p3, ⟨hm7.cp.r, hm7.cp.h, ?_, hm7.cp.d, fun y hy => ?_⟩⟩
      · rcases List.mem_append.1 hy with h | h
        · exact p4 y h
        · obtain rfl := List.mem_singleton.1 h
          exact Rw.nil _
      · rw [List.length_append, wnd_len, List.length_singleton]; exact ⟨p6, p7⟩
      · rcases List.mem_append.1 hy with h | h
        · exact hm7.cp.p y h
        · obtain rfl := List.mem_singleton.1 h
          exact ⟨Nat.le_refl _, Nat.zero_le _⟩
    obtain ⟨wt, hwt⟩ : ∃ V, w8.setCell ⟨x, 2, none⟩ (.slice a8 (s.opn.length + 1) d8) = V := ⟨_, rfl⟩
    have hgt : w8.grownBy wt (some x) := hwt ▸ sc_one _ _ _ _
    obtain ⟨k0, e0, e1, e2, e3, e4⟩ := hbs8
    simp only at e0 e1 e2 e3 e4
    have hbt : BS wt x ⟨s.rows, L2, wndS out s.opn ++ [⟨⟨ta, ti⟩, false, false, []⟩], s.done, s.ver⟩ ⟨A.ra, A.rc, ah, dh, a8, d8, wnM out A.om ++ [⟨⟨⟨ta, ti⟩, false, false, []⟩, none, 0⟩], A.da, A.dc⟩ := by
      refine ⟨?_, ?_, ?_, ?_, ?_, ?_⟩
      · rw [← hwt]; exact k0.set rfl
      · rw [← hwt]; simp [go_sem, e0]
      · rw [← hwt]; simp [go_sem, e1]
      · rw [← hwt, List.length_append, wnd_len, List.length_singleton]; simp [go_sem, e2]
      · rw [← hwt]; simp [go_sem, e3]
      · rw [← hwt]; simp [go_sem, e4]
    have HPT := Lib.hid (show PB x _ _ ⟨kd, ⟨ta, ti⟩, key, P, cm⟩ a c u wt from ⟨hbt, hO8.grown hgt (by omega), hwt ▸ hm8.set k0 fits_s 2 _⟩)
    have HRT := Lib.hid (hR8.grown hgt hBx (by omega) (by omega))
    have HZT := Lib.hid (show x + 1 + 1 + 1 + 1 ≤ wt.heap.size from by have := hg8.size; have := hgt.size; omega)
    have HRO := Lib.hid (show Ros wt A.ra s.rows from HPT.out.m.rows)
    have HWT := Lib.hid hwt
    have HR8 := Lib.hid hr8
    have f1 := k0.fz
    obtain ⟨_, c0, c1, c2, c3, c4⟩ := HBS7.out
    obtain ⟨_, q0, q1, q2, q3, q4, q5, q6⟩ := HO7.out
    obtain ⟨_, r0, r1, r2, r3, r4, r5, r6⟩ := hO8
    simp only at c0 c1 c2 c3 c4 q0 q1 q2 q3 q4 q5 r0 r1 r2 r3 r4 r5
    obtain ⟨s3, hs3⟩ : ∃ z : Sh, (⟨s.rows, L2, wndS out s.opn ++ [⟨⟨ta, ti⟩, false, false, []⟩], s.done, s.ver⟩ : Sh) = z := ⟨_, rfl⟩
    obtain ⟨A3, hA3⟩ : ∃ z : Sad, (⟨A.ra, A.rc, ah, dh, a8, d8, wnM out A.om ++ [⟨⟨⟨ta, ti⟩, false, false, []⟩, none, 0⟩], A.da, A.dc⟩ : Sad) = z := ⟨_, rfl⟩
    have HET := Lib.hid (show r = (s3, gAns s.rows key s3.ver) from by rw [← hs3]; exact HEN.out)
    rw [hs3, hA3] at HPT
    clear hs3 hA3 hwl hr8 hc8 hg8 hl8 hl9 hz7 hBx hB8 hR8 hm7 p1 p2 p3 p4 p5 p6 p7 hm8 hwt hgt k0 hbt HEN
    go_wp2_with (at_builtin; refine Lib.wpList_append_run _ rfl _ _ 24 24 rfl _ (.slice (some ⟨w7.heap.size, 0, none⟩) 1 1) rfl rfl _ _ HR8.out ?_)
    rw [HWT.out]
    clear HR8 HWT f1 c0 c1 c2 c3 c4 q0 q1 q2 q3 q4 q5 q6 r0 r1 r2 r3 r4 r5 r6 e0 e1 e2 e3 e4
    have HGE := Lib.hid (pGet_any key s.rows.length A.rc A.ra s.rows rfl hrl wt HRO.out)
    refine HGE.out.mono ?_
    rintro e w9 ⟨rfl, hb9⟩
    have HP9 := Lib.hid (HPT.out.later hb9)
    have HR9 := Lib.hid (HRT.out.later HRT.out.size hb9)
    have HZ9 := Lib.hid (Nat.le_trans HZT.out hb9.size)
    have HEA := Lib.hid (HET.out.trans (congrArg (Prod.mk s3) (gAns_eq s.rows key s3.ver)))
    obtain ⟨ro, hro⟩ : ∃ z, (getR key s.rows).getD z0 = z := ⟨_, rfl⟩
    obtain ⟨fd, hfd⟩ : ∃ b, (getR key s.rows).isSome = b := ⟨_, rfl⟩
    rw [hro, hfd] at HEA
    rw [hro, hfd]
    clear hro hfd hb9 HGE
    obtain ⟨rk, rv, rn⟩ := ro
    simp only at HEA
    obtain ⟨y9, hy9⟩ : ∃ y, w9.heap.size = y := ⟨_, rfl⟩
    cases fd
    · have HEB := Lib.hid (show r = (s3, ⟨0, rv, s3.ver, false, false⟩) from HEA.out)
      obtain ⟨V9, hV9⟩ : ∃ V, w9.alloc (.cells #[.string rk, .string rv, .int .u64 (rn : Nat)] 50) = V := ⟨_, rfl⟩
      have BV : Below w9.heap.size w9 V9 := hV9 ▸ (Below.refl _ _).alloc (Nat.le_refl _) _
      have hv0 : V9.cell? ⟨y9, 0, none⟩ = some (.string rk) ∧ V9.cell? ⟨y9, 1, none⟩ = some (.string rv) ∧ V9.cell? ⟨y9, 2, none⟩ = some (.int .u64 (rn : Nat)) ∧ ∀ j, V9.frozen? ⟨y9, j, none⟩ = false := by
        rw [← hV9, ← hy9]; exact ⟨by simp [go_sem], by simp [go_sem], by simp [go_sem], fun j => by simp [go_sem]⟩
      have HPV := Lib.hid (HP9.out.later BV)
      have HRV := Lib.hid (HR9.out.later HR9.out.size BV)
      have hy4 : x + 1 + 1 + 1 + 1 ≤ y9 := by have := HZ9.out; omega
      clear BV
      obtain ⟨Y9, hY9⟩ : ∃ V, V9.setCell ⟨y9, 2, none⟩ (.int .u64 (s3.ver : Nat)) = V := ⟨_, rfl⟩
      have hgY : V9.grownBy Y9 (some y9) := hY9 ▸ sc_one _ _ _ _
      have hmY : ShM Y9 s3 A3 := by
        have hb := HP9.out.m
        have hl := fun (z : Nat) (hz : z < w9.heap.size) (e : z = y9) => (show False from by omega)
        exact HPV.out.m.grown hgY (fun h0 q hq e => hl _ (rw_lt hb.rows h0 q hq) e) (fun h0 q hq e => hl _ (rw_lt hb.holds h0 q hq) e) (fun h0 q hq e => hl _ (rw_lt hb.opn h0 q hq) e) (fun h0 q hq e => hl _ (rw_lt hb.done h0 q hq) e) (fun y hy h0 q hq e => hl _ (rw_lt (hb.puts y hy) h0 q hq) e)
      have HPY := Lib.hid (show PB x s3 A3 ⟨kd, ⟨ta, ti⟩, key, P, cm⟩ a c u Y9 from ⟨HPV.out.bs.grown hgY (by omega), HPV.out.ob.grown hgY (by omega), hmY⟩)
      have HRY := Lib.hid (HRV.out.grown hgY (by have := HBX.out; omega) (by omega) (by omega))
      have HVY := Lib.hid (show Y9.cell? ⟨y9, 1, none⟩ = some (.string rv) ∧ Y9.cell? ⟨y9, 2, none⟩ = some (.int .u64 (s3.ver : Nat)) from by rw [← hY9]; exact ⟨by simp [go_sem, hv0.2.1], by simp [go_sem, hv0.2.2.1]⟩)
      obtain ⟨y0, y1, y2, fz⟩ := hv0
      obtain ⟨_, c0, c1, c2, c3, c4⟩ := HPV.out.bs
      have HWY := Lib.hid hY9
      clear hgY hmY hY9
      go_upto_region 17 with (fail)
      rw [HWY.out]
      clear y0 y1 y2 fz c0 c1 c2 c3 c4
      refine tillK_begin (S := fun w' => PB x s3 A3 ⟨kd, ⟨ta, ti⟩, key, P, cm⟩ a c u w' ∧ w'.cell? ⟨y9, 1, none⟩ = some (.string rv) ∧ w'.cell? ⟨y9, 2, none⟩ = some (.int .u64 (s3.ver : Nat))) (k := 8) (by kernel_rfl) ?_
      have S0 : PB x s3 A3 ⟨kd, ⟨ta, ti⟩, key, P, cm⟩ a c u Y9.drew ∧ Y9.drew.cell? ⟨y9, 1, none⟩ = some (.string rv) ∧ Y9.drew.cell? ⟨y9, 2, none⟩ = some (.int .u64 (s3.ver : Nat)) := ⟨HPY.out.later (Below.refl _ _).drew, HVY.out⟩
      have HRD := Lib.hid (HRY.out.later HRY.out.size (Below.refl _ _).drew)
      have HFI := Lib.hid (OrB.mk' (r := (s3, ⟨0, rv, s3.ver, false, false⟩)) HRY.out HPY.out.m)
      refine tillK_take (i := 0) (v := .agg #[.slice A3.ra s3.rows.length A3.rc, .slice A3.ha s3.holds.length A3.hc, .slice A3.oa s3.opn.length A3.oc, .slice A3.da s3.done.length A3.dc, .int .u64 (s3.ver : Nat)]) rfl (by kernel_rfl) (by kernel_rfl) (by kernel_rfl) (by kernel_rfl) (by kernel_rfl) (by kernel_rfl) (fun _ _ _ h => h) (Or.inl ⟨by rfl, ?hyc_0⟩) (by assumption) ?restc_0
      case hyc_0 =>
        rintro w' ⟨hb, z1, z2⟩
        obtain ⟨_, c0, c1, c2, c3, c4⟩ := hb.bs
        go_simp
      try simp only [Act.put, List.setIfInBounds_toArray]
      refine tillK_take (i := 1) (v := .pointer (some ⟨y9, 1, none⟩)) rfl (by kernel_rfl) (by kernel_rfl) (by kernel_rfl) (by kernel_rfl) (by kernel_rfl) (by kernel_rfl) (fun _ _ _ h => h) (Or.inl ⟨by rfl, ?hyc_1⟩) (by assumption) ?restc_1
      case hyc_1 =>
        rintro w' ⟨hb, z1, z2⟩
        obtain ⟨_, c0, c1, c2, c3, c4⟩ := hb.bs
        go_simp
      try simp only [Act.put]
      refine tillK_take (i := 2) (v := .string rv) rfl (by kernel_rfl) (by kernel_rfl) (by kernel_rfl) (by kernel_rfl) (by kernel_rfl) (by kernel_rfl) (fun _ _ _ h => h) (Or.inl ⟨by rfl, ?hyc_2⟩) (by assumption) ?restc_2
      case hyc_2 =>
        rintro w' ⟨hb, z1, z2⟩
        obtain ⟨_, c0, c1, c2, c3, c4⟩ := hb.bs
        go_simp
      try simp only [Act.put]
      refine tillK_take (i := 3) (v := .pointer (some ⟨y9, 2, none⟩)) rfl (by kernel_rfl) (by kernel_rfl) (by kernel_rfl) (by kernel_rfl) (by kernel_rfl) (by kernel_rfl) (fun _ _ _ h => h) (Or.inl ⟨by rfl, ?hyc_3⟩) (by assumption) ?restc_3
      case hyc_3 =>
        rintro w' ⟨hb, z1, z2⟩
        obtain ⟨_, c0, c1, c2, c3, c4⟩ := hb.bs
        go_simp
      try simp only [Act.put]
      refine tillK_take (i := 4) (v := .int .u64 (s3.ver : Nat)) rfl (by kernel_rfl) (by kernel_rfl) (by kernel_rfl) (by kernel_rfl) (by kernel_rfl) (by kernel_rfl) (fun _ _ _ h => h) (Or.inl ⟨by rfl, ?hyc_4⟩) (by assumption) ?restc_4
      case hyc_4 =>
        rintro w' ⟨hb, z1, z2⟩
        obtain ⟨_, c0, c1, c2, c3, c4⟩ := hb.bs
        go_simp
      try simp only [Act.put]
      refine tillK_take (i := 5) (v := .bool false) rfl (by kernel_rfl) (by kernel_rfl) (by kernel_rfl) (by kernel_rfl) (by kernel_rfl) (by kernel_rfl) (fun _ _ _ h => h) (Or.inl ⟨by rfl, ?hyc_5⟩) (by assumption) ?restc_5
      case hyc_5 =>
        rintro w' ⟨hb, z1, z2⟩
        obtain ⟨_, c0, c1, c2, c3, c4⟩ := hb.bs
        go_simp
      try simp only [Act.put]
      refine tillK_take (i := 6) (v := .agg #[.int .i64 0, .string rv, .int .u64 (s3.ver : Nat), .bool false, .bool false]) rfl (by kernel_rfl) (by kernel_rfl) (by kernel_rfl) (by kernel_rfl) (by kernel_rfl) (by kernel_rfl) (fun _ _ _ h => h) (Or.inl ⟨by rfl, ?hyc_6⟩) (by assumption) ?restc_6
      case hyc_6 =>
        rintro w' ⟨hb, z1, z2⟩
        obtain ⟨_, c0, c1, c2, c3, c4⟩ := hb.bs
        go_simp
      try simp only [Act.put]
      have HS7 := Lib.hid (fun v0 v1 v2 v3 v4 (e : sK = [kdV v0, kdV v1, kdV v2, kdV v3, kdV v4]) => (show PB x s3 A3 ⟨kd, ⟨ta, ti⟩, key, P, cm⟩ a c u (set5s Y9.drew (x + 1 + 1) v0 v1 v2 v3 v4) ∧ (set5s Y9.drew (x + 1 + 1) v0 v1 v2 v3 v4).cell? ⟨y9, 1, none⟩ = some (.string rv) ∧ (set5s Y9.drew (x + 1 + 1) v0 v1 v2 v3 v4).cell? ⟨y9, 2, none⟩ = some (.int .u64 (s3.ver : Nat)) from
        ⟨S0.1.set4 HRD.out.s (by omega) v0 v1 v2 v3 v4 e, (World.cell?_of_block (a := ⟨y9, 1, none⟩) ((set5s_grown Y9.drew (x + 1 + 1) v0 v1 v2 v3 v4).block y9 (cell_lt S0.2.1) (by simp; omega))).trans S0.2.1, (World.cell?_of_block (a := ⟨y9, 2, none⟩) ((set5s_grown Y9.drew (x + 1 + 1) v0 v1 v2 v3 v4).block y9 (cell_lt S0.2.2) (by simp; omega))).trans S0.2.2⟩))
      obtain ⟨u0, e0⟩ := HRY.out.s.so 0 (by decide)
      obtain ⟨u1, e1⟩ := HRY.out.s.so 1 (by decide)
      obtain ⟨u2, e2⟩ := HRY.out.s.so 2 (by decide)
      obtain ⟨u3, e3⟩ := HRY.out.s.so 3 (by decide)
      obtain ⟨u4, e4⟩ := HRY.out.s.so 4 (by decide)
      obtain ⟨v0, g0⟩ := HRY.out.a.so 0 (by decide)
      obtain ⟨v1, g1⟩ := HRY.out.a.so 1 (by decide)
      obtain ⟨v2, g2⟩ := HRY.out.a.so 2 (by decide)
      obtain ⟨v3, g3⟩ := HRY.out.a.so 3 (by decide)
      obtain ⟨v4, g4⟩ := HRY.out.a.so 4 (by decide)
      have f4 := HRY.out.s.fz
      have f5 := HRY.out.a.fz
      refine tillK_step (i := 7) (by kernel_rfl) rfl (by rfl) ?_
      intro Kc_7 hKc_7
      have HKc_7 := Lib.hid hKc_7
      clear hKc_7
      go_wp2_with fail
      refine HKc_7.out.out _ _ (fun _ => by refine HS7.out _ _ _ _ _ ?_; rfl) ?_
      refine tillK_step (i := 8) (by kernel_rfl) rfl (by rfl) ?_
      intro Kc_8 hKc_8
      have HKc_8 := Lib.hid hKc_8
      clear hKc_8
      go_wp2_with fail
      refine HKc_8.out.out _ _ (fun h => by simp at h) ?_
      refine tillK_done (by kernel_rfl) ?_
      clear S0
      go_wp2_with fail
      refine bodyPost_ret (v := .tuple #[shV s3 A3, ansV ⟨0, rv, s3.ver, false, false⟩]) (by simp [results, Try.results19, go_sem, e0, e1, e2, e3, e4, g0, g1, g2, g3, g4]) rfl ?_
      rw [HEB.out]
      exact (HFI.out _ rfl).drew
    · have HEB := Lib.hid (show r = (s3, ⟨0, rv, rn, true, false⟩) from HEA.out)
      obtain ⟨V9, hV9⟩ : ∃ V, w9.alloc (.cells #[.string rk, .string rv, .int .u64 (rn : Nat)] 50) = V := ⟨_, rfl⟩
      have BV : Below w9.heap.size w9 V9 := hV9 ▸ (Below.refl _ _).alloc (Nat.le_refl _) _
      have hv0 : V9.cell? ⟨y9, 0, none⟩ = some (.string rk) ∧ V9.cell? ⟨y9, 1, none⟩ = some (.string rv) ∧ V9.cell? ⟨y9, 2, none⟩ = some (.int .u64 (rn : Nat)) ∧ ∀ j, V9.frozen? ⟨y9, j, none⟩ = false := by
        rw [← hV9, ← hy9]; exact ⟨by simp [go_sem], by simp [go_sem], by simp [go_sem], fun j => by simp [go_sem]⟩
      have HPV := Lib.hid (HP9.out.later BV)
      have HRV := Lib.hid (HR9.out.later HR9.out.size BV)
      have hy4 : x + 1 + 1 + 1 + 1 ≤ y9 := by have := HZ9.out; omega
      clear BV
      have HVY := Lib.hid (And.intro hv0.2.1 hv0.2.2.1)
      obtain ⟨y0, y1, y2, fz⟩ := hv0
      go_upto_region 17 with (fail)
      clear y0 y1 y2 fz
      refine tillK_begin (S := fun w' => PB x s3 A3 ⟨kd, ⟨ta, ti⟩, key, P, cm⟩ a c u w' ∧ w'.cell? ⟨y9, 1, none⟩ = some (.string rv) ∧ w'.cell? ⟨y9, 2, none⟩ = some (.int .u64 (rn : Nat))) (k := 8) (by kernel_rfl) ?_
      have S0 : PB x s3 A3 ⟨kd, ⟨ta, ti⟩, key, P, cm⟩ a c u V9.drew ∧ V9.drew.cell? ⟨y9, 1, none⟩ = some (.string rv) ∧ V9.drew.cell? ⟨y9, 2, none⟩ = some (.int .u64 (rn : Nat)) := ⟨HPV.out.later (Below.refl _ _).drew, HVY.out⟩
      have HRD := Lib.hid (HRV.out.later HRV.out.size (Below.refl _ _).drew)
      have HFI := Lib.hid (OrB.mk' (r := (s3, ⟨0, rv, rn, true, false⟩)) HRV.out HPV.out.m)
      refine tillK_take (i := 0) (v := .agg #[.slice A3.ra s3.rows.length A3.rc, .slice A3.ha s3.holds.length A3.hc, .slice A3.oa s3.opn.length A3.oc, .slice A3.da s3.done.length A3.dc, .int .u64 (s3.ver : Nat)]) rfl (by kernel_rfl) (by kernel_rfl) (by kernel_rfl) (by kernel_rfl) (by kernel_rfl) (by kernel_rfl) (fun _ _ _ h => h) (Or.inl ⟨by rfl, ?hyd_0⟩) (by assumption) ?restd_0
      case hyd_0 =>
        rintro w' ⟨hb, z1, z2⟩
        obtain ⟨_, c0, c1, c2, c3, c4⟩ := hb.bs
        go_simp
      try simp only [Act.put, List.setIfInBounds_toArray]
      refine tillK_take (i := 1) (v := .pointer (some ⟨y9, 1, none⟩)) rfl (by kernel_rfl) (by kernel_rfl) (by kernel_rfl) (by kernel_rfl) (by kernel_rfl) (by kernel_rfl) (fun _ _ _ h => h) (Or.inl ⟨by rfl, ?hyd_1⟩) (by assumption) ?restd_1
      case hyd_1 =>
        rintro w' ⟨hb, z1, z2⟩
        obtain ⟨_, c0, c1, c2, c3, c4⟩ := hb.bs
        go_simp
      try simp only [Act.put]
      refine tillK_take (i := 2) (v := .string rv) rfl (by kernel_rfl) (by kernel_rfl) (by kernel_rfl) (by kernel_rfl) (by kernel_rfl) (by kernel_rfl) (fun _ _ _ h => h) (Or.inl ⟨by rfl, ?hyd_2⟩) (by assumption) ?restd_2
      case hyd_2 =>
        rintro w' ⟨hb, z1, z2⟩
        obtain ⟨_, c0, c1, c2, c3, c4⟩ := hb.bs
        go_simp
      try simp only [Act.put]
      refine tillK_take (i := 3) (v := .pointer (some ⟨y9, 2, none⟩)) rfl (by kernel_rfl) (by kernel_rfl) (by kernel_rfl) (by kernel_rfl) (by kernel_rfl) (by kernel_rfl) (fun _ _ _ h => h) (Or.inl ⟨by rfl, ?hyd_3⟩) (by assumption) ?restd_3
      case hyd_3 =>
        rintro w' ⟨hb, z1, z2⟩
        obtain ⟨_, c0, c1, c2, c3, c4⟩ := hb.bs
        go_simp
      try simp only [Act.put]
      refine tillK_take (i := 4) (v := .int .u64 (rn : Nat)) rfl (by kernel_rfl) (by kernel_rfl) (by kernel_rfl) (by kernel_rfl) (by kernel_rfl) (by kernel_rfl) (fun _ _ _ h => h) (Or.inl ⟨by rfl, ?hyd_4⟩) (by assumption) ?restd_4
      case hyd_4 =>
        rintro w' ⟨hb, z1, z2⟩
        obtain ⟨_, c0, c1, c2, c3, c4⟩ := hb.bs
        go_simp
      try simp only [Act.put]
      refine tillK_take (i := 5) (v := .bool true) rfl (by kernel_rfl) (by kernel_rfl) (by kernel_rfl) (by kernel_rfl) (by kernel_rfl) (by kernel_rfl) (fun _ _ _ h => h) (Or.inl ⟨by rfl, ?hyd_5⟩) (by assumption) ?restd_5
      case hyd_5 =>
        rintro w' ⟨hb, z1, z2⟩
        obtain ⟨_, c0, c1, c2, c3, c4⟩ := hb.bs
        go_simp
      try simp only [Act.put]
      refine tillK_take (i := 6) (v := .agg #[.int .i64 0, .string rv, .int .u64 (rn : Nat), .bool true, .bool false]) rfl (by kernel_rfl) (by kernel_rfl) (by kernel_rfl) (by kernel_rfl) (by kernel_rfl) (by kernel_rfl) (fun _ _ _ h => h) (Or.inl ⟨by rfl, ?hyd_6⟩) (by assumption) ?restd_6
      case hyd_6 =>
        rintro w' ⟨hb, z1, z2⟩
        obtain ⟨_, c0, c1, c2, c3, c4⟩ := hb.bs
        go_simp
      try simp only [Act.put]
      have HS7 := Lib.hid (fun v0 v1 v2 v3 v4 (e : sK = [kdV v0, kdV v1, kdV v2, kdV v3, kdV v4]) => (show PB x s3 A3 ⟨kd, ⟨ta, ti⟩, key, P, cm⟩ a c u (set5s V9.drew (x + 1 + 1) v0 v1 v2 v3 v4) ∧ (set5s V9.drew (x + 1 + 1) v0 v1 v2 v3 v4).cell? ⟨y9, 1, none⟩ = some (.string rv) ∧ (set5s V9.drew (x + 1 + 1) v0 v1 v2 v3 v4).cell? ⟨y9, 2, none⟩ = some (.int .u64 (rn : Nat)) from
        ⟨S0.1.set4 HRD.out.s (by omega) v0 v1 v2 v3 v4 e, (World.cell?_of_block (a := ⟨y9, 1, none⟩) ((set5s_grown V9.drew (x + 1 + 1) v0 v1 v2 v3 v4).block y9 (cell_lt S0.2.1) (by simp; omega))).trans S0.2.1, (World.cell?_of_block (a := ⟨y9, 2, none⟩) ((set5s_grown V9.drew (x + 1 + 1) v0 v1 v2 v3 v4).block y9 (cell_lt S0.2.2) (by simp; omega))).trans S0.2.2⟩))
      obtain ⟨u0, e0⟩ := HRV.out.s.so 0 (by decide)
      obtain ⟨u1, e1⟩ := HRV.out.s.so 1 (by decide)
      obtain ⟨u2, e2⟩ := HRV.out.s.so 2 (by decide)
      obtain ⟨u3, e3⟩ := HRV.out.s.so 3 (by decide)
      obtain ⟨u4, e4⟩ := HRV.out.s.so 4 (by decide)
      obtain ⟨v0, g0⟩ := HRV.out.a.so 0 (by decide)
      obtain ⟨v1, g1⟩ := HRV.out.a.so 1 (by decide)
      obtain ⟨v2, g2⟩ := HRV.out.a.so 2 (by decide)
      obtain ⟨v3, g3⟩ := HRV.out.a.so 3 (by decide)
      obtain ⟨v4, g4⟩ := HRV.out.a.so 4 (by decide)
      have f4 := HRV.out.s.fz
      have f5 := HRV.out.a.fz
      refine tillK_step (i := 7) (by kernel_rfl) rfl (by rfl) ?_
      intro Kd_7 hKd_7
      have HKd_7 := Lib.hid hKd_7
      clear hKd_7
      go_wp2_with fail
      refine HKd_7.out.out _ _ (fun _ => by refine HS7.out _ _ _ _ _ ?_; rfl) ?_
      refine tillK_step (i := 8) (by kernel_rfl) rfl (by rfl) ?_
      intro Kd_8 hKd_8
      have HKd_8 := Lib.hid hKd_8
      clear hKd_8
      go_wp2_with fail
      refine HKd_8.out.out _ _ (fun h => by simp at h) ?_
      refine tillK_done (by kernel_rfl) ?_
      clear S0
      go_wp2_with fail
      refine bodyPost_ret (v := .tuple #[shV s3 A3, ansV ⟨0, rv, rn, true, false⟩]) (by simp [results, Try.results19, go_sem, e0, e1, e2, e3, e4, g0, g1, g2, g3, g4]) rfl ?_
      rw [HEB.out]
      exact (HFI.out _ rfl).drew
  · rw [h3, Nat.zero_add]
    have gI : ixI (some j) = (j : Int) := rfl
    rw [gI]
    have hE := HE1.out
    rw [h5] at hE
    simp only [Option.isNone_some, Bool.false_eq_true, if_false, List.append_nil] at hE
    have HPT := Lib.hid (show PB x ⟨s.rows, L2, wndS out s.opn, s.done, s.ver⟩ ⟨A.ra, A.rc, ah, dh, A.oa, A.oc, wnM out A.om, A.da, A.dc⟩ ⟨kd, ⟨ta, ti⟩, key, P, cm⟩ a c u w7 from ⟨⟨HBS7.out.kb, HBS7.out.c0, HBS7.out.c1, by have := HBS7.out.c2; simp only at this ⊢; rw [wnd_len]; exact this, HBS7.out.c3, HBS7.out.c4⟩, HO7.out, HM7.out⟩)
    have HRT := Lib.hid HR7.out
    have HZT := Lib.hid HZ7.out
    have HRO := Lib.hid (show Ros w7 A.ra s.rows from HPT.out.m.rows)
    obtain ⟨s3, hs3⟩ : ∃ z : Sh, (⟨s.rows, L2, wndS out s.opn, s.done, s.ver⟩ : Sh) = z := ⟨_, rfl⟩
    obtain ⟨A3, hA3⟩ : ∃ z : Sad, (⟨A.ra, A.rc, ah, dh, A.oa, A.oc, wnM out A.om, A.da, A.dc⟩ : Sad) = z := ⟨_, rfl⟩
    have HET := Lib.hid (show r = (s3, gAns s.rows key s3.ver) from by rw [← hs3]; exact hE)
    rw [hs3, hA3] at HPT
    obtain ⟨_, c0, c1, c2, c3, c4⟩ := HBS7.out
    obtain ⟨_, q0, q1, q2, q3, q4, q5, q6⟩ := HO7.out
    simp only at c0 c1 c2 c3 c4 q0 q1 q2 q3 q4 q5
    have i0 : ¬ (j : Int) < 0 := by omega
    clear gI h3 h5 hy hE hs3 hA3
    go_wp2_with fail
    clear c0 c1 c2 c3 c4 q0 q1 q2 q3 q4 q5 q6 i0
    have HGE := Lib.hid (pGet_any key s.rows.length A.rc A.ra s.rows rfl hrl w7 HRO.out)
    refine HGE.out.mono ?_
    rintro e w9 ⟨rfl, hb9⟩
    have HP9 := Lib.hid (HPT.out.later hb9)
    have HR9 := Lib.hid (HRT.out.later HRT.out.size hb9)
    have HZ9 := Lib.hid (Nat.le_trans HZT.out hb9.size)
    have HEA := Lib.hid (HET.out.trans (congrArg (Prod.mk s3) (gAns_eq s.rows key s3.ver)))
    obtain ⟨ro, hro⟩ : ∃ z, (getR key s.rows).getD z0 = z := ⟨_, rfl⟩
    obtain ⟨fd, hfd⟩ : ∃ b, (getR key s.rows).isSome = b := ⟨_, rfl⟩
    rw [hro, hfd] at HEA
    rw [hro, hfd]
    clear hro hfd hb9 HGE
    obtain ⟨rk, rv, rn⟩ := ro
    simp only at HEA
    obtain ⟨y9, hy9⟩ : ∃ y, w9.heap.size = y := ⟨_, rfl⟩
    cases fd
    · have HEB := Lib.hid (show r = (s3, ⟨0, rv, s3.ver, false, false⟩) from HEA.out)
      obtain ⟨V9, hV9⟩ : ∃ V, w9.alloc (.cells #[.string rk, .string rv, .int .u64 (rn : Nat)] 50) = V := ⟨_, rfl⟩
      have BV : Below w9.heap.size w9 V9 := hV9 ▸ (Below.refl _ _).alloc (Nat.le_refl _) _
      have hv0 : V9.cell? ⟨y9, 0, none⟩ = some (.string rk) ∧ V9.cell? ⟨y9, 1, none⟩ = some (.string rv) ∧ V9.cell? ⟨y9, 2, none⟩ = some (.int .u64 (rn : Nat)) ∧ ∀ j, V9.frozen? ⟨y9, j, none⟩ = false := by
        rw [← hV9, ← hy9]; exact ⟨by simp [go_sem], by simp [go_sem], by simp [go_sem], fun j => by simp [go_sem]⟩
      have HPV := Lib.hid (HP9.out.later BV)
      have HRV := Lib.hid (HR9.out.later HR9.out.size BV)
      have hy4 : x + 1 + 1 + 1 + 1 ≤ y9 := by have := HZ9.out; omega
      clear BV
      obtain ⟨Y9, hY9⟩ : ∃ V, V9.setCell ⟨y9, 2, none⟩ (.int .u64 (s3.ver : Nat)) = V := ⟨_, rfl⟩
      have hgY : V9.grownBy Y9 (some y9) := hY9 ▸ sc_one _ _ _ _
      have hmY : ShM Y9 s3 A3 := by
        have hb := HP9.out.m
        have hl := fun (z : Nat) (hz : z < w9.heap.size) (e : z = y9) => (show False from by omega)
        exact HPV.out.m.grown hgY (fun h0 q hq e => hl _ (rw_lt hb.rows h0 q hq) e) (fun h0 q hq e => hl _ (rw_lt hb.holds h0 q hq) e) (fun h0 q hq e => hl _ (rw_lt hb.opn h0 q hq) e) (fun h0 q hq e => hl _ (rw_lt hb.done h0 q hq) e) (fun y hy h0 q hq e => hl _ (rw_lt (hb.puts y hy) h0 q hq) e)
      have HPY := Lib.hid (show PB x s3 A3 ⟨kd, ⟨ta, ti⟩, key, P, cm⟩ a c u Y9 from ⟨HPV.out.bs.grown hgY (by omega), HPV.out.ob.grown hgY (by omega), hmY⟩)
      have HRY := Lib.hid (HRV.out.grown hgY (by have := HBX.out; omega) (by omega) (by omega))
      have HVY := Lib.hid (show Y9.cell? ⟨y9, 1, none⟩ = some (.string rv) ∧ Y9.cell? ⟨y9, 2, none⟩ = some (.int .u64 (s3.ver : Nat)) from by rw [← hY9]; exact ⟨by simp [go_sem, hv0.2.1], by simp [go_sem, hv0.2.2.1]⟩)
      obtain ⟨y0, y1, y2, fz⟩ := hv0
      obtain ⟨_, c0, c1, c2, c3, c4⟩ := HPV.out.bs
      have HWY := Lib.hid hY9
      clear hgY hmY hY9
      go_upto_region 17 with (fail)
      rw [HWY.out]
      clear y0 y1 y2 fz c0 c1 c2 c3 c4
      refine tillK_begin (S := fun w' => PB x s3 A3 ⟨kd, ⟨ta, ti⟩, key, P, cm⟩ a c u w' ∧ w'.cell? ⟨y9, 1, none⟩ = some (.string rv) ∧ w'.cell? ⟨y9, 2, none⟩ = some (.int .u64 (s3.ver : Nat))) (k := 8) (by kernel_rfl) ?_
      have S0 : PB x s3 A3 ⟨kd, ⟨ta, ti⟩, key, P, cm⟩ a c u Y9.drew ∧ Y9.drew.cell? ⟨y9, 1, none⟩ = some (.string rv) ∧ Y9.drew.cell? ⟨y9, 2, none⟩ = some (.int .u64 (s3.ver : Nat)) := ⟨HPY.out.later (Below.refl _ _).drew, HVY.out⟩
      have HRD := Lib.hid (HRY.out.later HRY.out.size (Below.refl _ _).drew)
      have HFI := Lib.hid (OrB.mk' (r := (s3, ⟨0, rv, s3.ver, false, false⟩)) HRY.out HPY.out.m)
      refine tillK_take (i := 0) (v := .agg #[.slice A3.ra s3.rows.length A3.rc, .slice A3.ha s3.holds.length A3.hc, .slice A3.oa s3.opn.length A3.oc, .slice A3.da s3.done.length A3.dc, .int .u64 (s3.ver : Nat)]) rfl (by kernel_rfl) (by kernel_rfl) (by kernel_rfl) (by kernel_rfl) (by kernel_rfl) (by kernel_rfl) (fun _ _ _ h => h) (Or.inl ⟨by rfl, ?hye_0⟩) (by assumption) ?reste_0
      case hye_0 =>
        rintro w' ⟨hb, z1, z2⟩
        obtain ⟨_, c0, c1, c2, c3, c4⟩ := hb.bs
        go_simp
      try simp only [Act.put, List.setIfInBounds_toArray]
      refine tillK_take (i := 1) (v := .pointer (some ⟨y9, 1, none⟩)) rfl (by kernel_rfl) (by kernel_rfl) (by kernel_rfl) (by kernel_rfl) (by kernel_rfl) (by kernel_rfl) (fun _ _ _ h => h) (Or.inl ⟨by rfl, ?hye_1⟩) (by assumption) ?reste_1
      case hye_1 =>
        rintro w' ⟨hb, z1, z2⟩
        obtain ⟨_, c0, c1, c2, c3, c4⟩ := hb.bs
        go_simp
      try simp only [Act.put]
      refine tillK_take (i := 2) (v := .string rv) rfl (by kernel_rfl) (by kernel_rfl) (by kernel_rfl) (by kernel_rfl) (by kernel_rfl) (by kernel_rfl) (fun _ _ _ h => h) (Or.inl ⟨by rfl, ?hye_2⟩) (by assumption) ?reste_2
      case hye_2 =>
        rintro w' ⟨hb, z1, z2⟩
        obtain ⟨_, c0, c1, c2, c3, c4⟩ := hb.bs
        go_simp
      try simp only [Act.put]
      refine tillK_take (i := 3) (v := .pointer (some ⟨y9, 2, none⟩)) rfl (by kernel_rfl) (by kernel_rfl) (by kernel_rfl) (by kernel_rfl) (by kernel_rfl) (by kernel_rfl) (fun _ _ _ h => h) (Or.inl ⟨by rfl, ?hye_3⟩) (by assumption) ?reste_3
      case hye_3 =>
        rintro w' ⟨hb, z1, z2⟩
        obtain ⟨_, c0, c1, c2, c3, c4⟩ := hb.bs
        go_simp
      try simp only [Act.put]
      refine tillK_take (i := 4) (v := .int .u64 (s3.ver : Nat)) rfl (by kernel_rfl) (by kernel_rfl) (by kernel_rfl) (by kernel_rfl) (by kernel_rfl) (by kernel_rfl) (fun _ _ _ h => h) (Or.inl ⟨by rfl, ?hye_4⟩) (by assumption) ?reste_4
      case hye_4 =>
        rintro w' ⟨hb, z1, z2⟩
        obtain ⟨_, c0, c1, c2, c3, c4⟩ := hb.bs
        go_simp
      try simp only [Act.put]
      refine tillK_take (i := 5) (v := .bool false) rfl (by kernel_rfl) (by kernel_rfl) (by kernel_rfl) (by kernel_rfl) (by kernel_rfl) (by kernel_rfl) (fun _ _ _ h => h) (Or.inl ⟨by rfl, ?hye_5⟩) (by assumption) ?reste_5
      case hye_5 =>
        rintro w' ⟨hb, z1, z2⟩
        obtain ⟨_, c0, c1, c2, c3, c4⟩ := hb.bs
        go_simp
      try simp only [Act.put]
      refine tillK_take (i := 6) (v := .agg #[.int .i64 0, .string rv, .int .u64 (s3.ver : Nat), .bool false, .bool false]) rfl (by kernel_rfl) (by kernel_rfl) (by kernel_rfl) (by kernel_rfl) (by kernel_rfl) (by kernel_rfl) (fun _ _ _ h => h) (Or.inl ⟨by rfl, ?hye_6⟩) (by assumption) ?reste_6
      case hye_6 =>
        rintro w' ⟨hb, z1, z2⟩
        obtain ⟨_, c0, c1, c2, c3, c4⟩ := hb.bs
        go_simp
      try simp only [Act.put]
      have HS7 := Lib.hid (fun v0 v1 v2 v3 v4 (e : sK = [kdV v0, kdV v1, kdV v2, kdV v3, kdV v4]) => (show PB x s3 A3 ⟨kd, ⟨ta, ti⟩, key, P, cm⟩ a c u (set5s Y9.drew (x + 1 + 1) v0 v1 v2 v3 v4) ∧ (set5s Y9.drew (x + 1 + 1) v0 v1 v2 v3 v4).cell? ⟨y9, 1, none⟩ = some (.string rv) ∧ (set5s Y9.drew (x + 1 + 1) v0 v1 v2 v3 v4).cell? ⟨y9, 2, none⟩ = some (.int .u64 (s3.ver : Nat)) from
        ⟨S0.1.set4 HRD.out.s (by omega) v0 v1 v2 v3 v4 e, (World.cell?_of_block (a := ⟨y9, 1, none⟩) ((set5s_grown Y9.drew (x + 1 + 1) v0 v1 v2 v3 v4).block y9 (cell_lt S0.2.1) (by simp; omega))).trans S0.2.1, (World.cell?_of_block (a := ⟨y9, 2, none⟩) ((set5s_grown Y9.drew (x + 1 + 1) v0 v1 v2 v3 v4).block y9 (cell_lt S0.2.2) (by simp; omega))).trans S0.2.2⟩))
      obtain ⟨u0, e0⟩ := HRY.out.s.so 0 (by decide)
      obtain ⟨u1, e1⟩ := HRY.out.s.so 1 (by decide)
      obtain ⟨u2, e2⟩ := HRY.out.s.so 2 (by decide)
      obtain ⟨u3, e3⟩ := HRY.out.s.so 3 (by decide)
      obtain ⟨u4, e4⟩ := HRY.out.s.so 4 (by decide)
      obtain ⟨v0, g0⟩ := HRY.out.a.so 0 (by decide)
      obtain ⟨v1, g1⟩ := HRY.out.a.so 1 (by decide)
      obtain ⟨v2, g2⟩ := HRY.out.a.so 2 (by decide)
      obtain ⟨v3, g3⟩ := HRY.out.a.so 3 (by decide)
      obtain ⟨v4, g4⟩ := HRY.out.a.so 4 (by decide)
      have f4 := HRY.out.s.fz
      have f5 := HRY.out.a.fz
      refine tillK_step (i := 7) (by kernel_rfl) rfl (by rfl) ?_
      intro Ke_7 hKe_7
      have HKe_7 := Lib.hid hKe_7
      clear hKe_7
      go_wp2_with fail
      refine HKe_7.out.out _ _ (fun _ => by refine HS7.out _ _ _ _ _ ?_; rfl) ?_
      refine tillK_step (i := 8) (by kernel_rfl) rfl (by rfl) ?_
      intro Ke_8 hKe_8
      have HKe_8 := Lib.hid hKe_8
      clear hKe_8
      go_wp2_with fail
      refine HKe_8.out.out _ _ (fun h => by simp at h) ?_
      refine tillK_done (by kernel_rfl) ?_
      clear S0
      go_wp2_with fail
      refine bodyPost_ret (v := .tuple #[shV s3 A3, ansV ⟨0, rv, s3.ver, false, false⟩]) (by simp [results, Try.results19, go_sem, e0, e1, e2, e3, e4, g0, g1, g2, g3, g4]) rfl ?_
      rw [HEB.out]
      exact (HFI.out _ rfl).drew
    · have HEB := Lib.hid (show r = (s3, ⟨0, rv, rn, true, false⟩) from HEA.out)
      obtain ⟨V9, hV9⟩ : ∃ V, w9.alloc (.cells #[.string rk, .string rv, .int .u64 (rn : Nat)] 50) = V := ⟨_, rfl⟩
      have BV : Below w9.heap.size w9 V9 := hV9 ▸ (Below.refl _ _).alloc (Nat.le_refl _) _
      have hv0 : V9.cell? ⟨y9, 0, none⟩ = some (.string rk) ∧ V9.cell? ⟨y9, 1, none⟩ = some (.string rv) ∧ V9.cell? ⟨y9, 2, none⟩ = some (.int .u64 (rn : Nat)) ∧ ∀ j, V9.frozen? ⟨y9, j, none⟩ = false := by
        rw [← hV9, ← hy9]; exact ⟨by simp [go_sem], by simp [go_sem], by simp [go_sem], fun j => by simp [go_sem]⟩
      have HPV := Lib.hid (HP9.out.later BV)
      have HRV := Lib.hid (HR9.out.later HR9.out.size BV)
      have hy4 : x + 1 + 1 + 1 + 1 ≤ y9 := by have := HZ9.out; omega
      clear BV
      have HVY := Lib.hid (And.intro hv0.2.1 hv0.2.2.1)
      obtain ⟨y0, y1, y2, fz⟩ := hv0
      go_upto_region 17 with (fail)
      clear y0 y1 y2 fz
      refine tillK_begin (S := fun w' => PB x s3 A3 ⟨kd, ⟨ta, ti⟩, key, P, cm⟩ a c u w' ∧ w'.cell? ⟨y9, 1, none⟩ = some (.string rv) ∧ w'.cell? ⟨y9, 2, none⟩ = some (.int .u64 (rn : Nat))) (k := 8) (by kernel_rfl) ?_
      have S0 : PB x s3 A3 ⟨kd, ⟨ta, ti⟩, key, P, cm⟩ a c u V9.drew ∧ V9.drew.cell? ⟨y9, 1, none⟩ = some (.string rv) ∧ V9.drew.cell? ⟨y9, 2, none⟩ = some (.int .u64 (rn : Nat)) := ⟨HPV.out.later (Below.refl _ _).drew, HVY.out⟩
      have HRD := Lib.hid (HRV.out.later HRV.out.size (Below.refl _ _).drew)
      have HFI := Lib.hid (OrB.mk' (r := (s3, ⟨0, rv, rn, true, false⟩)) HRV.out HPV.out.m)
      refine tillK_take (i := 0) (v := .agg #[.slice A3.ra s3.rows.length A3.rc, .slice A3.ha s3.holds.length A3.hc, .slice A3.oa s3.opn.length A3.oc, .slice A3.da s3.done.length A3.dc, .int .u64 (s3.ver : Nat)]) rfl (by kernel_rfl) (by kernel_rfl) (by kernel_rfl) (by kernel_rfl) (by kernel_rfl) (by kernel_rfl) (fun _ _ _ h => h) (Or.inl ⟨by rfl, ?hyf_0⟩) (by assumption) ?restf_0
      case hyf_0 =>
        rintro w' ⟨hb, z1, z2⟩
        obtain ⟨_, c0, c1, c2, c3, c4⟩ := hb.bs
        go_simp
      try simp only [Act.put, List.setIfInBounds_toArray]
      refine tillK_take (i := 1) (v := .pointer (some ⟨y9, 1, none⟩)) rfl (by kernel_rfl) (by kernel_rfl) (by kernel_rfl) (by kernel_rfl) (by kernel_rfl) (by kernel_rfl) (fun _ _ _ h => h) (Or.inl ⟨by rfl, ?hyf_1⟩) (by assumption) ?restf_1
      case hyf_1 =>
        rintro w' ⟨hb, z1, z2⟩
        obtain ⟨_, c0, c1, c2, c3, c4⟩ := hb.bs
        go_simp
      try simp only [Act.put]
      refine tillK_take (i := 2) (v := .string rv) rfl (by kernel_rfl) (by kernel_rfl) (by kernel_rfl) (by kernel_rfl) (by kernel_rfl) (by kernel_rfl) (fun _ _ _ h => h) (Or.inl ⟨by rfl, ?hyf_2⟩) (by assumption) ?restf_2
      case hyf_2 =>
        rintro w' ⟨hb, z1, z2⟩
        obtain ⟨_, c0, c1, c2, c3, c4⟩ := hb.bs
        go_simp
      try simp only [Act.put]
      refine tillK_take (i := 3) (v := .pointer (some ⟨y9, 2, none⟩)) rfl (by kernel_rfl) (by kernel_rfl) (by kernel_rfl) (by kernel_rfl) (by kernel_rfl) (by kernel_rfl) (fun _ _ _ h => h) (Or.inl ⟨by rfl, ?hyf_3⟩) (by assumption) ?restf_3
      case hyf_3 =>
        rintro w' ⟨hb, z1, z2⟩
        obtain ⟨_, c0, c1, c2, c3, c4⟩ := hb.bs
        go_simp
      try simp only [Act.put]
      refine tillK_take (i := 4) (v := .int .u64 (rn : Nat)) rfl (by kernel_rfl) (by kernel_rfl) (by kernel_rfl) (by kernel_rfl) (by kernel_rfl) (by kernel_rfl) (fun _ _ _ h => h) (Or.inl ⟨by rfl, ?hyf_4⟩) (by assumption) ?restf_4
      case hyf_4 =>
        rintro w' ⟨hb, z1, z2⟩
        obtain ⟨_, c0, c1, c2, c3, c4⟩ := hb.bs
        go_simp
      try simp only [Act.put]
      refine tillK_take (i := 5) (v := .bool true) rfl (by kernel_rfl) (by kernel_rfl) (by kernel_rfl) (by kernel_rfl) (by kernel_rfl) (by kernel_rfl) (fun _ _ _ h => h) (Or.inl ⟨by rfl, ?hyf_5⟩) (by assumption) ?restf_5
      case hyf_5 =>
        rintro w' ⟨hb, z1, z2⟩
        obtain ⟨_, c0, c1, c2, c3, c4⟩ := hb.bs
        go_simp
      try simp only [Act.put]
      refine tillK_take (i := 6) (v := .agg #[.int .i64 0, .string rv, .int .u64 (rn : Nat), .bool true, .bool false]) rfl (by kernel_rfl) (by kernel_rfl) (by kernel_rfl) (by kernel_rfl) (by kernel_rfl) (by kernel_rfl) (fun _ _ _ h => h) (Or.inl ⟨by rfl, ?hyf_6⟩) (by assumption) ?restf_6
      case hyf_6 =>
        rintro w' ⟨hb, z1, z2⟩
        obtain ⟨_, c0, c1, c2, c3, c4⟩ := hb.bs
        go_simp
      try simp only [Act.put]
      have HS7 := Lib.hid (fun v0 v1 v2 v3 v4 (e : sK = [kdV v0, kdV v1, kdV v2, kdV v3, kdV v4]) => (show PB x s3 A3 ⟨kd, ⟨ta, ti⟩, key, P, cm⟩ a c u (set5s V9.drew (x + 1 + 1) v0 v1 v2 v3 v4) ∧ (set5s V9.drew (x + 1 + 1) v0 v1 v2 v3 v4).cell? ⟨y9, 1, none⟩ = some (.string rv) ∧ (set5s V9.drew (x + 1 + 1) v0 v1 v2 v3 v4).cell? ⟨y9, 2, none⟩ = some (.int .u64 (rn : Nat)) from
        ⟨S0.1.set4 HRD.out.s (by omega) v0 v1 v2 v3 v4 e, (World.cell?_of_block (a := ⟨y9, 1, none⟩) ((set5s_grown V9.drew (x + 1 + 1) v0 v1 v2 v3 v4).block y9 (cell_lt S0.2.1) (by simp; omega))).trans S0.2.1, (World.cell?_of_block (a := ⟨y9, 2, none⟩) ((set5s_grown V9.drew (x + 1 + 1) v0 v1 v2 v3 v4).block y9 (cell_lt S0.2.2) (by simp; omega))).trans S0.2.2⟩))
      obtain ⟨u0, e0⟩ := HRV.out.s.so 0 (by decide)
      obtain ⟨u1, e1⟩ := HRV.out.s.so 1 (by decide)
      obtain ⟨u2, e2⟩ := HRV.out.s.so 2 (by decide)
      obtain ⟨u3, e3⟩ := HRV.out.s.so 3 (by decide)
      obtain ⟨u4, e4⟩ := HRV.out.s.so 4 (by decide)
      obtain ⟨v0, g0⟩ := HRV.out.a.so 0 (by decide)
      obtain ⟨v1, g1⟩ := HRV.out.a.so 1 (by decide)
      obtain ⟨v2, g2⟩ := HRV.out.a.so 2 (by decide)
      obtain ⟨v3, g3⟩ := HRV.out.a.so 3 (by decide)
      obtain ⟨v4, g4⟩ := HRV.out.a.so 4 (by decide)
      have f4 := HRV.out.s.fz
      have f5 := HRV.out.a.fz
      refine tillK_step (i := 7) (by kernel_rfl) rfl (by rfl) ?_
      intro Kf_7 hKf_7
      have HKf_7 := Lib.hid hKf_7
      clear hKf_7
      go_wp2_with fail
      refine HKf_7.out.out _ _ (fun _ => by refine HS7.out _ _ _ _ _ ?_; rfl) ?_
      refine tillK_step (i := 8) (by kernel_rfl) rfl (by rfl) ?_
      intro Kf_8 hKf_8
      have HKf_8 := Lib.hid hKf_8
      clear hKf_8
      go_wp2_with fail
      refine HKf_8.out.out _ _ (fun h => by simp at h) ?_
      refine tillK_done (by kernel_rfl) ?_
      clear S0
      go_wp2_with fail
      refine bodyPost_ret (v := .tuple #[shV s3 A3, ansV ⟨0, rv, rn, true, false⟩]) (by simp [results, Try.results19, go_sem, e0, e1, e2, e3, e4, g0, g1, g2, g3, g4]) rfl ?_
      rw [HEB.out]
      exact (HFI.out _ rfl).drew
end Go.Proofs.Ythgnecggdlamfaa
