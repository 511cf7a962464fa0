/- The program's finish. -/
import Derived.Test.YthgnecggdlamfaaTt
import Derived.Test.YthgnecggdlamfaaHk
import Derived.Deep.QuietTactic
import Derived.BigQuiet
namespace Go.Proofs.Ythgnecggdlamfaa
open Go.RowKit

theorem fin_over {s : Sh} {o : Odr} {c : Bool} (h : ovrS o.t s.done = some c) : finS s o = (s, ansC (if c = o.cm then 0 else 13) c) := by unfold finS; rw [h]
theorem fin_may {s : Sh} {o : Odr} (h : ovrS o.t s.done = none) (hm : mayF s o.t o.cm ≠ 0) : finS s o = (s, ansE (mayF s o.t o.cm)) := by
  unfold finS mayF at *
  rw [h]
  cases hk : knoS o.t s.opn with
  | none =>
    rw [hk] at hm
    simp only at hm ⊢
    by_cases h1 : o.cm = true
    · simp [h1]
    · by_cases h2 : 64 ≤ s.opn.length + s.done.length
      · simp [h1, h2]
      · simp [h1, h2] at hm
  | some x =>
    rw [hk] at hm
    simp only at hm ⊢
    by_cases h1 : o.cm = true ∧ x.fm = false
    · simp [h1]
    · rw [if_neg h1] at hm; exact absurd rfl hm
theorem fin_all {s : Sh} {o : Odr} {x : Sop} (h : ovrS o.t s.done = none) (hm : mayF s o.t o.cm = 0) (hk : knoS o.t s.opn = some x) (hc : o.cm = true) (hp : 0 < x.puts.length) {R : List Ro} {e : Nat} (ha : allR s.rows x.puts ((s.ver + 1) % 18446744073709551616) = (R, e)) :
    finS s o = if e ≠ 0 then (s, ansE e) else (relS R ((s.ver + 1) % 18446744073709551616) s o, ansC 0 o.cm) := by
  unfold finS mayF at *
  rw [h, hk]
  rw [hk] at hm
  simp only at hm ⊢
  by_cases h1 : o.cm = true ∧ x.fm = false
  · rw [if_pos h1] at hm; cases hm
  · rw [if_neg h1, if_pos ⟨hc, hp⟩, ha]
theorem fin_rel {s : Sh} {o : Odr} (h : ovrS o.t s.done = none) (hm : mayF s o.t o.cm = 0) (hn : o.cm = true → ∀ x, knoS o.t s.opn = some x → ¬ 0 < x.puts.length) : finS s o = (relS s.rows s.ver s o, ansC 0 o.cm) := by
  unfold finS mayF at *
  rw [h]
  cases hk : knoS o.t s.opn with
  | none =>
    rw [hk] at hm
    simp only at hm ⊢
    by_cases h1 : o.cm = true
    · simp [h1] at hm
    · by_cases h2 : 64 ≤ s.opn.length + s.done.length
      · simp [h1, h2] at hm
      · simp [h1, h2]
  | some x =>
    rw [hk] at hm
    simp only at hm ⊢
    by_cases h1 : o.cm = true ∧ x.fm = false
    · rw [if_pos h1] at hm; cases hm
    · rw [if_neg h1, if_neg (fun h2 => hn h2.1 x hk h2.2)]
theorem wrap_u64 (n : Nat) : IntKind.u64.wrap ((n : Int) + 1) = ((n + 1) % 18446744073709551616 : Nat) := by
  simp [IntKind.wrap, IntKind.signed, IntKind.bits]
set_option maxRecDepth 100000 in
set_option maxHeartbeats 8000000 in
theorem finish_any (B : Nat) (s : Sh) (A : Sad) (o : Odr) (a : Option Addr) (c : Nat) (q : Option Addr) (qn qc : Nat) (w : World) (hC : ShC B w s A) (hB : B ≤ w.heap.size) (zs : SzS s) (zo : SzO o) :
    Calls Try.prog 21 #[shV s A, odrV o a c (.slice q qn qc)] w (OrB B w (finS s o)) := by
  obtain ⟨u, hu⟩ : ∃ u, Value.slice q qn qc = u := ⟨_, rfl⟩
  rw [hu]
  clear hu
  obtain ⟨W, hW⟩ : ∃ W, doW w s A o a c u = W := ⟨_, rfl⟩
  obtain ⟨x, hx⟩ : ∃ x, w.heap.size = x := ⟨_, rfl⟩
  obtain ⟨hS, hO, hR, hBW, hsz⟩ := four hW hx
  have hol : s.opn.length ≤ 140737488351232 := by have := zs.olen; omega
  have hdl : s.done.length ≤ 140737488351232 := by have := zs.dlen; omega
  have HP := Lib.hid (show PB x s A o a c u W from ⟨hS, hO, hC.m.later hBW⟩)
  have HR := Lib.hid (show RsC B w W (x + 1 + 1) (x + 1 + 1 + 1) from ⟨hR.s, hR.a, Nat.le_trans hB hR.l4, hR.l5, hR.b.mono hB⟩)
  have HC := Lib.hid (hC.later hBW)
  have HALL := Lib.hid (fun b hb => (hC.all b hb).mono (Nat.le_refl _) (Nat.le_of_eq hx))
  have HBX := Lib.hid (show B ≤ x from hx ▸ hB)
  have HDA := Lib.hid (fun w' (h : Below W.heap.size W w') => doneAt_any s A o.t w' ((hC.m.later hBW).later h) hdl)
  have HOA := Lib.hid (fun w' (h : Below W.heap.size W w') => openAt_any s A o.t w' ((hC.m.later hBW).later h) hol)
  have HMF := Lib.hid (fun w' (h : Below W.heap.size W w') => mayFinish_any s A o.t o.cm w' ((hC.m.later hBW).later h) hol hdl)
  have HZ := Lib.hid zs
  have HZO := Lib.hid zo
  have HW := Lib.hid hW
  have HX := Lib.hid hx
  have HSZ := Lib.hid hsz
  obtain ⟨kd, ⟨ta, ti⟩, key, P, cm⟩ := o
  obtain ⟨r, hr⟩ : ∃ r, finS s ⟨kd, ⟨ta, ti⟩, key, P, cm⟩ = r := ⟨_, rfl⟩
  rw [hr]
  have HRR := Lib.hid hr
  obtain ⟨_, q0, q1, q2, q3, q4, q5, q6⟩ := hO
  obtain ⟨_, c0, c1, c2, c3, c4⟩ := hS
  simp only at q0 q1 q2 q3 q4 q5 HDA HOA
  clear hC hB zs zo hR hBW hsz hW hx hr
  go_enter Try.func21, Try.ntmps21
  go_wp2_with fail
  have hWX := HW.out
  simp only [doW] at hWX
  rw [hWX, HX.out]
  clear hWX
  go_wp2_with fail
  refine (HDA.out W (Below.refl _ _)).mono ?_
  rintro e w1 ⟨rfl, hb1⟩
  have HB1 := Lib.hid hb1
  have HP1 := Lib.hid (HP.out.later hb1)
  have HR1 := Lib.hid (HR.out.later HR.out.size hb1)
  clear hb1 c0 c1 c2 c3 c4 q0 q1 q2 q3 q4 q5 q6
  rcases oix_ovr ⟨ta, ti⟩ s.done 0 with ⟨h3, h4⟩ | ⟨j, y, h3, hx, h5⟩
  case inr =>
    rw [h3, Nat.zero_add]
    have hr1 := HRR.out.symm.trans (fin_over h5)
    have hjl := (List.getElem?_eq_some_iff.1 hx).1
    obtain ⟨b, off, hda, _, p0, p1, p2⟩ := Sdn.cells HP1.out.m.done hx
    have i0 : (0 : Int) ≤ (j : Int) := by omega
    have i1 : (j : Int) < (s.done.length : Int) := by omega
    have gI : ixI (some j) = (j : Int) := rfl
    rw [gI]
    obtain ⟨⟨xa, xi⟩, xc⟩ := y
    clear gI h3 h5 hjl
    obtain ⟨_, c0, c1, c2, c3, c4⟩ := HP1.out.bs
    obtain ⟨_, q0, q1, q2, q3, q4, q5, q6⟩ := HP1.out.ob
    rw [hda] at c3
    simp only at q0 q1 q2 q3 q4 q5 p0 p1 p2 hr1
    by_cases hxc : xc = cm
    · subst hxc
      rw [if_pos rfl] at hr1
      have g1 : (xc == xc) = true := by simp
      have g2 : (xc != xc) = false := by simp
      go_upto_region 3 with (fail)
      go_quiet (fail)
      obtain ⟨wd, hwd⟩ : ∃ V, V = w1.drewN nq := ⟨_, rfl⟩
      rw [← hwd]
      have hbd : Below w1.heap.size w1 wd := hwd ▸ below_drewN (Below.refl _ _) _
      have HPd := Lib.hid (HP1.out.later hbd)
      have HRd := Lib.hid (HR1.out.later HR1.out.size hbd)
      clear hwd hbd c0 c1 c2 c3 c4 q0 q1 q2 q3 q4 q5 q6 p0 p1 p2 g1 g2
      go_upto_region 5 with (fail)
      refine tillK_begin (S := PB x s A ⟨kd, ⟨ta, ti⟩, key, P, xc⟩ a c u) (k := 5) (by kernel_rfl) ?_
      have S0 : PB x s A ⟨kd, ⟨ta, ti⟩, key, P, xc⟩ a c u wd.drew := HPd.out.later (Below.refl _ _).drew
      have HRe := Lib.hid (HRd.out.later HRd.out.size (Below.refl _ _).drew)
      have HFI := Lib.hid (OrB.mk' (r := (s, ansC 0 xc)) HRd.out HPd.out.m)
      have HX4 := Lib.hid (fun v0 v1 v2 v3 v4 (e : sK = [kdV v0, kdV v1, kdV v2, kdV v3, kdV v4]) => S0.set4 HRe.out.s (by omega) v0 v1 v2 v3 v4 e)
      have HDA2 := Lib.hid hda
      clear hda
      refine tillK_take (i := 0) (v := .agg #[.slice A.ra s.rows.length A.rc, .slice A.ha s.holds.length A.hc, .slice A.oa s.opn.length A.oc, .slice A.da s.done.length A.dc, .int .u64 (s.ver : Nat)]) rfl (by kernel_rfl) (by kernel_rfl) (by kernel_rfl) (by kernel_rfl) (by kernel_rfl) (by kernel_rfl) (fun _ _ _ h => h) (Or.inl ⟨by rfl, ?hyc_0⟩) (by assumption) ?restc_0
      case hyc_0 =>
        rintro w' ⟨hb, ho, hm⟩
        obtain ⟨_, c0, c1, c2, c3, c4⟩ := hb
        obtain ⟨_, q0, q1, q2, q3, q4, q5, q6⟩ := ho
        simp only at q0 q1 q2 q3 q4 q5
        go_simp
      try simp only [Act.put, List.setIfInBounds_toArray]
      refine tillK_take (i := 1) (v := .pointer (some ⟨x + 1, 5, none⟩)) rfl (by kernel_rfl) (by kernel_rfl) (by kernel_rfl) (by kernel_rfl) (by kernel_rfl) (by kernel_rfl) (fun _ _ _ h => h) (Or.inl ⟨by rfl, ?hyc_1⟩) (by assumption) ?restc_1
      case hyc_1 =>
        rintro w' ⟨hb, ho, hm⟩
        obtain ⟨_, c0, c1, c2, c3, c4⟩ := hb
        obtain ⟨_, q0, q1, q2, q3, q4, q5, q6⟩ := ho
        simp only at q0 q1 q2 q3 q4 q5
        go_simp
      try simp only [Act.put]
      refine tillK_take (i := 2) (v := .bool xc) rfl (by kernel_rfl) (by kernel_rfl) (by kernel_rfl) (by kernel_rfl) (by kernel_rfl) (by kernel_rfl) (fun _ _ _ h => h) (Or.inl ⟨by rfl, ?hyc_2⟩) (by assumption) ?restc_2
      case hyc_2 =>
        rintro w' ⟨hb, ho, hm⟩
        obtain ⟨_, c0, c1, c2, c3, c4⟩ := hb
        obtain ⟨_, q0, q1, q2, q3, q4, q5, q6⟩ := ho
        simp only at q0 q1 q2 q3 q4 q5
        go_simp
      try simp only [Act.put]
      refine tillK_take (i := 3) (v := .agg #[.int .i64 0, .string ⟨#[]⟩, .int .u64 0, .bool false, .bool xc]) rfl (by kernel_rfl) (by kernel_rfl) (by kernel_rfl) (by kernel_rfl) (by kernel_rfl) (by kernel_rfl) (fun _ _ _ h => h) (Or.inl ⟨by rfl, ?hyc_3⟩) (by assumption) ?restc_3
      case hyc_3 =>
        rintro w' ⟨hb, ho, hm⟩
        obtain ⟨_, c0, c1, c2, c3, c4⟩ := hb
        obtain ⟨_, q0, q1, q2, q3, q4, q5, q6⟩ := ho
        simp only at q0 q1 q2 q3 q4 q5
        go_simp
      try simp only [Act.put]
      obtain ⟨u0, e0⟩ := HRd.out.s.so 0 (by decide)
      obtain ⟨u1, e1⟩ := HRd.out.s.so 1 (by decide)
      obtain ⟨u2, e2⟩ := HRd.out.s.so 2 (by decide)
      obtain ⟨u3, e3⟩ := HRd.out.s.so 3 (by decide)
      obtain ⟨u4, e4⟩ := HRd.out.s.so 4 (by decide)
      obtain ⟨v0, g0⟩ := HRd.out.a.so 0 (by decide)
      obtain ⟨v1, g1⟩ := HRd.out.a.so 1 (by decide)
      obtain ⟨v2, g2⟩ := HRd.out.a.so 2 (by decide)
      obtain ⟨v3, g3⟩ := HRd.out.a.so 3 (by decide)
      obtain ⟨v4, g4⟩ := HRd.out.a.so 4 (by decide)
      have f4 := HRd.out.s.fz
      have f5 := HRd.out.a.fz
      refine tillK_step (i := 4) (by kernel_rfl) rfl (by rfl) ?_
      intro Kc_4 hKc_4
      have HKc_4 := Lib.hid hKc_4
      clear hKc_4
      go_wp2_with fail
      refine HKc_4.out.out _ _ (fun _ => HX4.out _ _ _ _ _ rfl) ?_
      refine tillK_step (i := 5) (by kernel_rfl) rfl (by rfl) ?_
      intro Kc_5 hKc_5
      have HKc_5 := Lib.hid hKc_5
      clear hKc_5
      go_wp2_with fail
      refine HKc_5.out.out _ _ (fun h => by simp at h) ?_
      refine tillK_done (by kernel_rfl) ?_
      clear S0
      go_wp2_with fail
      refine bodyPost_ret (v := .tuple #[shV s A, ansV (ansC 0 xc)]) (by simp [results, Try.results21, go_sem, e0, e1, e2, e3, e4, g0, g1, g2, g3, g4, ansC]) rfl ?_
      rw [hr1]
      exact (HFI.out _ rfl).drew
    · rw [if_neg hxc] at hr1
      have g1 : (xc == cm) = false := by simpa using hxc
      have g2 : (xc != cm) = true := by simpa using hxc
      go_upto_region 3 with (fail)
      go_quiet (fail)
      obtain ⟨wd, hwd⟩ : ∃ V, V = w1.drewN nq := ⟨_, rfl⟩
      rw [← hwd]
      have hbd : Below w1.heap.size w1 wd := hwd ▸ below_drewN (Below.refl _ _) _
      have HPd := Lib.hid (HP1.out.later hbd)
      have HRd := Lib.hid (HR1.out.later HR1.out.size hbd)
      clear hwd hbd c0 c1 c2 c3 c4 q0 q1 q2 q3 q4 q5 q6 p0 p1 p2 g1 g2
      go_upto_region 4 with (fail)
      refine tillK_begin (S := PB x s A ⟨kd, ⟨ta, ti⟩, key, P, cm⟩ a c u) (k := 8) (by kernel_rfl) ?_
      have S0 : PB x s A ⟨kd, ⟨ta, ti⟩, key, P, cm⟩ a c u wd.drew := HPd.out.later (Below.refl _ _).drew
      refine tillK_take (i := 0) (v := .agg #[.slice A.ra s.rows.length A.rc, .slice A.ha s.holds.length A.hc, .slice A.oa s.opn.length A.oc, .slice (some ⟨b, off, none⟩) s.done.length A.dc, .int .u64 (s.ver : Nat)]) rfl (by kernel_rfl) (by kernel_rfl) (by kernel_rfl) (by kernel_rfl) (by kernel_rfl) (by kernel_rfl) (fun _ _ _ h => h) (Or.inl ⟨by rfl, ?hya_0⟩) (by assumption) ?resta_0
      case hya_0 =>
        rintro w' ⟨hb, ho, hm⟩
        obtain ⟨_, c0, c1, c2, c3, c4⟩ := hb
        rw [hda] at c3
        go_simp
      try simp only [Act.put, List.setIfInBounds_toArray]
      refine tillK_take (i := 1) (v := .pointer (some ⟨x, 3, none⟩)) rfl (by kernel_rfl) (by kernel_rfl) (by kernel_rfl) (by kernel_rfl) (by kernel_rfl) (by kernel_rfl) (fun _ _ _ h => h) (Or.inl ⟨by rfl, ?hya_1⟩) (by assumption) ?resta_1
      case hya_1 =>
        rintro w' ⟨hb, ho, hm⟩
        obtain ⟨_, c0, c1, c2, c3, c4⟩ := hb
        rw [hda] at c3
        go_simp
      try simp only [Act.put]
      refine tillK_take (i := 2) (v := .slice (some ⟨b, off, none⟩) s.done.length A.dc) rfl (by kernel_rfl) (by kernel_rfl) (by kernel_rfl) (by kernel_rfl) (by kernel_rfl) (by kernel_rfl) (fun _ _ _ h => h) (Or.inl ⟨by rfl, ?hya_2⟩) (by assumption) ?resta_2
      case hya_2 =>
        rintro w' ⟨hb, ho, hm⟩
        obtain ⟨_, c0, c1, c2, c3, c4⟩ := hb
        rw [hda] at c3
        go_simp
      try simp only [Act.put]
      refine tillK_take (i := 3) (v := .int .i64 j) rfl (by kernel_rfl) (by kernel_rfl) (by kernel_rfl) (by kernel_rfl) (by kernel_rfl) (by kernel_rfl) (fun _ _ _ h => h) (Or.inl ⟨by rfl, ?hya_3⟩) (by assumption) ?resta_3
      case hya_3 =>
        rintro w' ⟨hb, ho, hm⟩
        obtain ⟨_, c0, c1, c2, c3, c4⟩ := hb
        rw [hda] at c3
        go_simp
      try simp only [Act.put]
      refine tillK_take (i := 4) (v := .pointer (some ⟨b, off + j * 3, none⟩)) rfl (by kernel_rfl) (by kernel_rfl) (by kernel_rfl) (by kernel_rfl) (by kernel_rfl) (by kernel_rfl) (fun _ _ _ h => h) (Or.inl ⟨by rfl, ?hya_4⟩) (by assumption) ?resta_4
      case hya_4 =>
        rintro w' ⟨hb, ho, hm⟩
        obtain ⟨_, c0, c1, c2, c3, c4⟩ := hb
        rw [hda] at c3
        go_simp
      try simp only [Act.put]
      refine tillK_take (i := 5) (v := .agg #[.int .u64 (xa : Nat), .int .u64 (xi : Nat), .bool xc]) rfl (by kernel_rfl) (by kernel_rfl) (by kernel_rfl) (by kernel_rfl) (by kernel_rfl) (by kernel_rfl) (fun _ _ _ h => h) (Or.inl ⟨by rfl, ?hya_5⟩) (by assumption) ?resta_5
      case hya_5 =>
        rintro w' ⟨hb, ho, hm⟩
        obtain ⟨_, c0, c1, c2, c3, c4⟩ := hb
        rw [hda] at c3
        obtain ⟨_, p0, p1, p2⟩ := dn_at hm hda hx
        simp only at p0 p1 p2
        clear hm
        go_simp
      try simp only [Act.put]
      refine tillK_step (i := 6) (by kernel_rfl) rfl (by rfl) ?_
      intro Ka_6 hKa_6
      have HKa_6 := Lib.hid hKa_6
      clear hKa_6
      go_wp2_with fail
      refine (tooLate_any ⟨⟨xa, xi⟩, xc⟩ _).mono ?_
      rintro e w2 ⟨rfl, hb2⟩
      have HP2 := Lib.hid (S0.later hb2)
      have HR2 := Lib.hid ((HRd.out.later HRd.out.size (Below.refl _ _).drew).later (HRd.out.later HRd.out.size (Below.refl _ _).drew).size hb2)
      have HFI := Lib.hid (OrB.mk' (r := (s, ansC 13 xc)) HR2.out HP2.out.m)
      have HX4 := Lib.hid (fun v0 v1 v2 v3 v4 (e : sK = [kdV v0, kdV v1, kdV v2, kdV v3, kdV v4]) => HP2.out.set4 HR2.out.s (by omega) v0 v1 v2 v3 v4 e)
      obtain ⟨u0, e0⟩ := HR2.out.s.so 0 (by decide)
      obtain ⟨u1, e1⟩ := HR2.out.s.so 1 (by decide)
      obtain ⟨u2, e2⟩ := HR2.out.s.so 2 (by decide)
      obtain ⟨u3, e3⟩ := HR2.out.s.so 3 (by decide)
      obtain ⟨u4, e4⟩ := HR2.out.s.so 4 (by decide)
      obtain ⟨v0, g0⟩ := HR2.out.a.so 0 (by decide)
      obtain ⟨v1, g1⟩ := HR2.out.a.so 1 (by decide)
      obtain ⟨v2, g2⟩ := HR2.out.a.so 2 (by decide)
      obtain ⟨v3, g3⟩ := HR2.out.a.so 3 (by decide)
      obtain ⟨v4, g4⟩ := HR2.out.a.so 4 (by decide)
      have f4 := HR2.out.s.fz
      have f5 := HR2.out.a.fz
      clear hb2
      dsimp only
      refine HKa_6.out.out _ _ (fun _ => HP2.out) ?_
      refine tillK_step (i := 7) (by kernel_rfl) rfl (by rfl) ?_
      intro Ka_7 hKa_7
      have HKa_7 := Lib.hid hKa_7
      clear hKa_7
      go_wp2_with fail
      refine HKa_7.out.out _ _ (fun _ => HX4.out _ _ _ _ _ rfl) ?_
      refine tillK_step (i := 8) (by kernel_rfl) rfl (by rfl) ?_
      intro Ka_8 hKa_8
      have HKa_8 := Lib.hid hKa_8
      clear hKa_8
      go_wp2_with fail
      refine HKa_8.out.out _ _ (fun h => by simp at h) ?_
      refine tillK_done (by kernel_rfl) ?_
      go_wp2_with fail
      rw [hda] at HFI
      refine bodyPost_ret (v := .tuple #[shV s A, ansV (ansC 13 xc)]) (by simp [results, Try.results21, go_sem, e0, e1, e2, e3, e4, g0, g1, g2, g3, g4, ansC, hda]) rfl ?_
      rw [hr1]
      exact HFI.out _ rfl
  rw [h3]
  have gI : ixI none = -1 := rfl
  rw [gI]
  have HOV := Lib.hid h4
  obtain ⟨_, c0, c1, c2, c3, c4⟩ := HP1.out.bs
  obtain ⟨_, q0, q1, q2, q3, q4, q5, q6⟩ := HP1.out.ob
  simp only at q0 q1 q2 q3 q4 q5
  clear gI h3 h4
  go_wp2_with fail
  refine (HOA.out w1 HB1.out).mono ?_
  rintro e w2 ⟨rfl, hb2⟩
  have HB2 := Lib.hid (HB1.out.trans (hb2.mono HB1.out.size))
  have HP2 := Lib.hid (HP1.out.later hb2)
  have HR2 := Lib.hid (HR1.out.later HR1.out.size hb2)
  clear hb2 c0 c1 c2 c3 c4 q0 q1 q2 q3 q4 q5 q6
  obtain ⟨_, c0, c1, c2, c3, c4⟩ := HP2.out.bs
  obtain ⟨_, q0, q1, q2, q3, q4, q5, q6⟩ := HP2.out.ob
  simp only at q0 q1 q2 q3 q4 q5
  go_wp2_with fail
  refine (HMF.out w2 HB2.out).mono ?_
  rintro e w3 ⟨rfl, hb3⟩
  have HB3 := Lib.hid (HB2.out.trans (hb3.mono HB2.out.size))
  have HP3 := Lib.hid (HP2.out.later hb3)
  have HR3 := Lib.hid (HR2.out.later HR2.out.size hb3)
  obtain ⟨m, hm⟩ : ∃ m, mayF s ⟨ta, ti⟩ cm = m := ⟨_, rfl⟩
  simp only [hm]
  clear hb3 c0 c1 c2 c3 c4 q0 q1 q2 q3 q4 q5 q6
  by_cases hm0 : m = 0
  case neg =>
    have hr1 := HRR.out.symm.trans (fin_may HOV.out (by simp only; rw [hm]; exact hm0))
    simp only [hm] at hr1
    have HE := Lib.hid hr1
    have g1 : ((m : Int) == 0) = false := by simp; omega
    have g2 : ((m : Int) != 0) = true := by simp; omega
    have HFI := Lib.hid (OrB.mk' (r := (s, ansE m)) HR3.out HP3.out.m)
    obtain ⟨_, c0, c1, c2, c3, c4⟩ := HP3.out.bs
    clear hr1 hm hm0
    go_upto_region 9 with (fail)
    clear g1 g2
    obtain ⟨u0, e0⟩ := HR3.out.s.so 0 (by decide)
    obtain ⟨u1, e1⟩ := HR3.out.s.so 1 (by decide)
    obtain ⟨u2, e2⟩ := HR3.out.s.so 2 (by decide)
    obtain ⟨u3, e3⟩ := HR3.out.s.so 3 (by decide)
    obtain ⟨u4, e4⟩ := HR3.out.s.so 4 (by decide)
    obtain ⟨v0, g0⟩ := HR3.out.a.so 0 (by decide)
    obtain ⟨v1, g1⟩ := HR3.out.a.so 1 (by decide)
    obtain ⟨v2, g2⟩ := HR3.out.a.so 2 (by decide)
    obtain ⟨v3, g3⟩ := HR3.out.a.so 3 (by decide)
    obtain ⟨v4, g4⟩ := HR3.out.a.so 4 (by decide)
    have f4 := HR3.out.s.fz
    have f5 := HR3.out.a.fz
    go_wp2_with fail
    refine bodyPost_ret (v := .tuple #[shV s A, ansV (ansE m)]) (by simp [results, Try.results21, go_sem, e0, e1, e2, e3, e4, g0, g1, g2, g3, g4, ansE]) rfl ?_
    rw [HE.out]
    exact HFI.out _ rfl
  subst hm0
  cases cm
  case false =>
    have HNP : false = true → ∀ y, knoS ⟨ta, ti⟩ s.opn = some y → ¬ 0 < y.puts.length := fun h => by cases h
    have HEt := Lib.hid (HRR.out.symm.trans (fin_rel HOV.out (by simp only; exact hm) HNP))
    have HZt := Lib.hid (show x + 1 + 1 + 1 + 1 ≤ w3.heap.size from by have := HB3.out.size; have := HSZ.out; omega)
    have HBSt := HP3.out.bs
    have HBSt := Lib.hid (show BS w3 x ⟨s.rows, s.holds, s.opn, s.done, s.ver⟩ ⟨A.ra, A.rc, A.ha, A.hc, A.oa, A.oc, A.om, A.da, A.dc⟩ from HBSt)
    have HOt := Lib.hid HP3.out.ob
    have HRt := Lib.hid HR3.out
    have HCt := Lib.hid (HC.out.later HB3.out)
    have HRo := Lib.hid (show Ros w3 A.ra s.rows from HP3.out.m.rows)
    have HNG := Lib.hid (show ∀ g, NE A.ra g → (g < x ∨ w3.heap.size ≤ g) → NB A.ra s.rows.length g from fun g h _ => h.nb _)
    have HCR := Lib.hid (show s.rows.length ≤ A.rc ∧ A.rc ≤ maxLen from HP3.out.m.cp.r)
    obtain ⟨_, c0, c1, c2, c3, c4⟩ := HP3.out.bs
    obtain ⟨_, q0, q1, q2, q3, q4, q5, q6⟩ := HP3.out.ob
    simp only at q0 q1 q2 q3 q4 q5
    clear HNP hm
    go_wp2_with fail
    clear c0 c1 c2 c3 c4 q0 q1 q2 q3 q4 q5 q6
    have HRL := Lib.hid (released_any B ⟨s.rows, s.holds, s.opn, s.done, s.ver⟩ ⟨A.ra, A.rc, A.ha, A.hc, A.oa, A.oc, A.om, A.da, A.dc⟩ ⟨ta, ti⟩ w3 (Nat.le_trans HBX.out (by have := HZt.out; omega)) HZO.out.ok.2 HZ.out.hold HZ.out.hlen hol HCt.out.m.olen HCt.out.m.holds HCt.out.opn ((HALL.out _ (.inr (.inr (.inl rfl)))).mono (Nat.le_refl _) (by have := HZt.out; omega)))
    unfold RlP at HRL
    obtain ⟨L2, hL2⟩ : ∃ L, dropH ⟨ta, ti⟩ s.holds = L := ⟨_, rfl⟩
    obtain ⟨M2, hM2⟩ : ∃ M, (A.om.filter fun y => !decide (y.x.t = (⟨ta, ti⟩ : Tx))) = M := ⟨_, rfl⟩
    simp only [hL2, hM2] at HRL
    refine HRL.out.mono ?_
    rintro e w8 ⟨ah, dh, rfl, ⟨hH8, hl8, hd8, hm8⟩, hC8, hG8⟩
    have hMx : M2.map (fun y => y.x) = s.opn.filter (fun y => !decide (y.t = (⟨ta, ti⟩ : Tx))) := by
      rw [← hM2, ← HCt.out.m.om, List.filter_map]; rfl
    have hML : M2.length = (s.opn.filter (fun y => !decide (y.t = (⟨ta, ti⟩ : Tx)))).length := by rw [← hMx, List.length_map]
    have hMm : ∀ y ∈ M2, y ∈ A.om := fun y hy => by rw [← hM2] at hy; exact (List.mem_filter.1 hy).1
    obtain ⟨g, hgg, hBg, hgx, n1, n2, n3, n4⟩ := HCt.out.opnG (HALL.out _ (.inr (.inr (.inl rfl)))) hG8 (Nat.le_trans HBX.out (by have := HZt.out; omega))
    have hzt := HZt.out
    have hz8 := hgg.size
    have hBx := HBX.out
    have hxg : x ≠ g := by rcases hgx with h | h <;> omega
    have hbs8 := HBSt.out.grown hgg hxg
    have hO8 := HOt.out.grown hgg (by rcases hgx with h | h <;> omega)
    have hR8 := HRt.out.grown hgg hBg (by rcases hgx with h | h <;> omega) (by rcases hgx with h | h <;> omega)
    have r8 : Ros w8 A.ra s.rows := rw_grown HRo.out hgg (HNG.out g n1 hgx)
    have D8 : Cq 68 3 sdnC B w8 (.slice A.da s.done.length A.dc) s.done := HCt.out.done.grownT sdnT hgg (fun n c e => by injection e with e _ _; exact n3 _ e rfl)
    have P8 : ∀ y ∈ M2, Pus w8 y.a y.x.puts := fun y hy => rw_grown (HCt.out.m.puts y (hMm y hy)) hgg ((n4 y (hMm y hy)).nb _)
    obtain ⟨w9, hw9⟩ : ∃ V, set5s w8 x (.slice A.ra s.rows.length A.rc) (.slice ah L2.length dh) (.slice A.oa M2.length A.oc) (.slice A.da s.done.length A.dc) (.int .u64 (s.ver : Nat)) = V := ⟨_, rfl⟩
    have hg9 : w8.grownBy w9 (some x) := hw9 ▸ set5s_grown _ _ _ _ _ _ _
    have hloA : ∀ q, A.oa = some q → q.block < x := fun q hq => (HALL.out _ (.inr (.inr (.inl rfl))) q hq).2
    have hloD : ∀ q, A.da = some q → q.block < x := fun q hq => (HALL.out _ (.inr (.inr (.inr (.inl rfl)))) q hq).2
    have r9 : Ros w9 A.ra s.rows := rw_grown r8 hg9 (Rw.notin r8 hbs8.kb fits_s.ro)
    have h9 : Hos w9 ah L2 := rw_grown hH8 hg9 (Rw.notin hH8 hbs8.kb fits_s.ho)
    have C9 : Cq 48 5 sopC B w9 (.slice A.oa M2.length A.oc) M2 := hC8.grownT sopT hg9 (fun n c e => by injection e with e _ _; have := hloA _ e; simp at this)
    have D9 : Cq 68 3 sdnC B w9 (.slice A.da s.done.length A.dc) s.done := D8.grownT sdnT hg9 (fun n c e => by injection e with e _ _; have := hloD _ e; simp at this)
    have P9 : ∀ y ∈ M2, Pus w9 y.a y.x.puts := fun y hy => rw_grown (P8 y hy) hg9 (Rw.notin (P8 y hy) hbs8.kb fits_s.pu)
    have k9 : KB w9 x sK := hw9 ▸ hbs8.kb.set5
    obtain ⟨c9_0, c9_1, c9_2, c9_3, c9_4⟩ := hbs8.kb.cells5 (.slice A.ra s.rows.length A.rc) (.slice ah L2.length dh) (.slice A.oa M2.length A.oc) (.slice A.da s.done.length A.dc) (.int .u64 (s.ver : Nat))
    rw [hw9] at c9_0 c9_1 c9_2 c9_3 c9_4
    have hO9 := hO8.grown hg9 (by omega)
    have hR9 := hR8.grown hg9 hBx (by omega) (by omega)
    obtain ⟨a9, d9, w10, hr10, hc10, g9, hg10, hl10⟩ := appD B w9 (.slice A.da s.done.length A.dc) s.done D9 ⟨⟨ta, ti⟩, false⟩ (by have := HZ.out.dlen; omega) (by have := hg9.size; omega)
    have hz9 := hg9.size
    have hl11 : w9.heap.size ≤ g9 ∨ B ≤ g9 ∧ g9 < x ∧ A.da = some ⟨g9, 0, none⟩ := by
      rcases hl10 with h | ⟨h, n', c', e⟩
      · exact .inl h
      · injection e with e _ _
        exact .inr ⟨h, hloD _ e, e⟩
    have r10 : Ros w10 A.ra s.rows := rw_grown r9 hg10 (fun h0 q hq => by
      have h2 := rw_lt r9 h0 q hq
      rcases hl11 with h | ⟨_, h5, h⟩
      · omega
      · exact HNG.out g9 (HCt.out.sd _ h).1 (.inl h5) h0 q hq)
    have h10 : Hos w10 ah L2 := rw_grown h9 hg10 (fun h0 q hq => by
      have h1 := hl8 h0 q hq
      have h2 := rw_lt h9 h0 q hq
      rcases hl11 with h | ⟨_, h, _⟩ <;> omega)
    obtain ⟨_, _, eo, O9, _, _, mo⟩ := C9.form sopT
    injection eo with eo eo2 eo3
    clear eo2
    subst eo
    have O10 : Rw 5 sopC w10 A.oa M2 := rw_grown O9 hg10 (fun h0 q hq => by
      have h2 := rw_lt O9 h0 q hq
      rcases hl11 with h | ⟨_, _, h⟩
      · omega
      · exact (HCt.out.sd _ h).2.2.1 q hq)
    have P10 : ∀ y ∈ M2, Pus w10 y.a y.x.puts := fun y hy => rw_grown (P9 y hy) hg10 (fun h0 q hq => by
      have h2 := rw_lt (P9 y hy) h0 q hq
      rcases hl11 with h | ⟨_, _, h⟩
      · omega
      · exact (HCt.out.sd _ h).2.2.2 y (hMm y hy) q hq)
    obtain ⟨_, _, ed, E10, _, md, Md⟩ := hc10.form sdnT
    injection ed with ed ed2 ed3
    rw [List.length_append, List.length_singleton] at md
    rw [← ed3] at md Md
    clear ed2 ed3
    subst ed
    have k10 : KB w10 x sK := k9.grownK hg10 (by rcases hl11 with h | ⟨_, h, _⟩ <;> omega)
    have ff : ∀ i v, w9.cell? ⟨x, i, none⟩ = some v → w10.cell? ⟨x, i, none⟩ = some v := fun i v e => (World.cell?_of_block (a := ⟨x, i, none⟩) (hg10.block x k9.lt (by simp; rcases hl11 with h | ⟨_, h, _⟩ <;> omega))).trans e
    have hm10 : ShM w10 ⟨s.rows, L2, s.opn.filter (fun y => !decide (y.t = (⟨ta, ti⟩ : Tx))), s.done ++ [⟨⟨ta, ti⟩, false⟩], s.ver⟩ ⟨A.ra, A.rc, ah, dh, A.oa, A.oc, M2, a9, d9⟩ := by
      refine ⟨r10, h10, hMx, O10, P10, E10, ⟨HCR.out, ⟨hd8, hm8⟩, ?_, ⟨by rw [List.length_append, List.length_singleton]; exact md, Md⟩, fun y hy => HCt.out.m.cp.p y (hMm y hy)⟩⟩
      have h1 := HCt.out.m.cp.o
      have h2 := List.length_filter_le (fun y : Sop => !decide (y.t = (⟨ta, ti⟩ : Tx))) s.opn
      simp only at h1 ⊢
      exact ⟨by omega, h1.2⟩
    obtain ⟨w11, hw11⟩ : ∃ V, w10.setCell ⟨x, 3, none⟩ (.slice a9 (s.done.length + 1) d9) = V := ⟨_, rfl⟩
    have hg11 : w10.grownBy w11 (some x) := hw11 ▸ sc_one _ _ _ _
    have hbs11 : BS w11 x ⟨s.rows, L2, s.opn.filter (fun y => !decide (y.t = (⟨ta, ti⟩ : Tx))), s.done ++ [⟨⟨ta, ti⟩, false⟩], s.ver⟩ ⟨A.ra, A.rc, ah, dh, A.oa, A.oc, M2, a9, d9⟩ := by
      refine ⟨?_, ?_, ?_, ?_, ?_, ?_⟩
      · rw [← hw11]; exact k10.set rfl
      · rw [← hw11]; simp [go_sem, ff _ _ c9_0]
      · rw [← hw11]; simp [go_sem, ff _ _ c9_1]
      · rw [← hw11, ← hML]; simp [go_sem, ff _ _ c9_2]
      · rw [← hw11, List.length_append, List.length_singleton]; simp [go_sem, ff _ _ c9_3]
      · rw [← hw11]; simp [go_sem, ff _ _ c9_4]
    have hO11 := (hO9.grown hg10 (by rcases hl11 with h | ⟨_, h, _⟩ <;> omega)).grown hg11 (by omega)
    have hR11 := (hR9.grown hg10 (by rcases hl11 with h | ⟨h, _⟩ <;> omega) (by rcases hl11 with h | ⟨_, h, _⟩ <;> omega) (by rcases hl11 with h | ⟨_, h, _⟩ <;> omega)).grown hg11 hBx (by omega) (by omega)
    have hm11 : ShM w11 ⟨s.rows, L2, s.opn.filter (fun y => !decide (y.t = (⟨ta, ti⟩ : Tx))), s.done ++ [⟨⟨ta, ti⟩, false⟩], s.ver⟩ ⟨A.ra, A.rc, ah, dh, A.oa, A.oc, M2, a9, d9⟩ := hw11 ▸ hm10.set k10 fits_s 3 _
    have hEE : r = (⟨s.rows, L2, s.opn.filter (fun y => !decide (y.t = (⟨ta, ti⟩ : Tx))), s.done ++ [⟨⟨ta, ti⟩, false⟩], s.ver⟩, ansC 0 false) := by rw [HEt.out]; unfold relS; simp only [hL2]
    obtain ⟨s9, hs9⟩ : ∃ z : Sh, (⟨s.rows, L2, s.opn.filter (fun y => !decide (y.t = (⟨ta, ti⟩ : Tx))), s.done ++ [⟨⟨ta, ti⟩, false⟩], s.ver⟩ : Sh) = z := ⟨_, rfl⟩
    obtain ⟨A9, hA9⟩ : ∃ z : Sad, (⟨A.ra, A.rc, ah, dh, A.oa, A.oc, M2, a9, d9⟩ : Sad) = z := ⟨_, rfl⟩
    rw [hs9] at hEE
    rw [hs9, hA9] at hm11 hbs11
    have HE9 := Lib.hid hEE
    have HP11 := Lib.hid (show PB x s9 A9 ⟨kd, ⟨ta, ti⟩, key, P, false⟩ a c u w11 from ⟨hbs11, hO11, hm11⟩)
    have HR11 := Lib.hid hR11
    have HW9 := Lib.hid hw9
    have HW11 := Lib.hid hw11
    have HR10 := Lib.hid hr10
    obtain ⟨z0, e0⟩ := hbs8.kb.so 0 (by decide)
    obtain ⟨z1, e1⟩ := hbs8.kb.so 1 (by decide)
    obtain ⟨z2, e2⟩ := hbs8.kb.so 2 (by decide)
    obtain ⟨z3, e3⟩ := hbs8.kb.so 3 (by decide)
    obtain ⟨z4, e4⟩ := hbs8.kb.so 4 (by decide)
    have f8 := hbs8.kb.fz
    have f10 := k10.fz
    have d10 := ff _ _ c9_3
    obtain ⟨_, q0, q1, q2, q3, q4, q5, q6⟩ := hO9
    simp only at q0 q1 q2 q3 q4 q5
    clear HRL hL2 hM2 hH8 hl8 hd8 hm8 hC8 hG8 hMx hML hMm hgg hBg hgx n1 n2 n3 n4 hzt hz8 hBx hxg hbs8 hO8 hR8 r8 D8 P8 hw9 hg9 hloA hloD r9 h9 C9 D9 P9 k9 c9_0 c9_1 c9_2 c9_4 hR9 hr10 hc10 hg10 hl10 hz9 hl11 r10 h10 O9 mo O10 P10 E10 md Md k10 ff hm10 hw11 hg11 hbs11 hO11 hR11 hm11 hEE hs9 hA9 eo3
    go_upto_region 16 with (fail)
    have hW9 := HW9.out
    simp only [set5s] at hW9
    rw [hW9]
    clear hW9
    clear e0 e1 e2 e3 e4 f8
    go_upto_region 17 with (at_builtin; refine Lib.wpList_append_run _ rfl _ _ 25 25 rfl _ (.slice (some ⟨w9.heap.size, 0, none⟩) 1 1) rfl rfl _ _ HR10.out ?_)
    rw [HW11.out]
    clear f10 d10 q0 q1 q2 q3 q4 q5 q6 c9_3
    refine tillK_begin (S := PB x s9 A9 ⟨kd, ⟨ta, ti⟩, key, P, false⟩ a c u) (k := 5) (by kernel_rfl) ?_
    have S0 : PB x s9 A9 ⟨kd, ⟨ta, ti⟩, key, P, false⟩ a c u w11.drew := HP11.out.later (Below.refl _ _).drew
    have HRe := Lib.hid (HR11.out.later HR11.out.size (Below.refl _ _).drew)
    have HFI := Lib.hid (OrB.mk' (r := (s9, ansC 0 false)) HR11.out HP11.out.m)
    have HX4 := Lib.hid (fun v0 v1 v2 v3 v4 (e : sK = [kdV v0, kdV v1, kdV v2, kdV v3, kdV v4]) => S0.set4 HRe.out.s (by omega) v0 v1 v2 v3 v4 e)
    refine tillK_take (i := 0) (v := .agg #[.slice A9.ra s9.rows.length A9.rc, .slice A9.ha s9.holds.length A9.hc, .slice A9.oa s9.opn.length A9.oc, .slice A9.da s9.done.length A9.dc, .int .u64 (s9.ver : Nat)]) rfl (by kernel_rfl) (by kernel_rfl) (by kernel_rfl) (by kernel_rfl) (by kernel_rfl) (by kernel_rfl) (fun _ _ _ h => h) (Or.inl ⟨by rfl, ?hyg_0⟩) (by assumption) ?restg_0
    case hyg_0 =>
      rintro w' ⟨hb, ho, hm⟩
      obtain ⟨_, c0, c1, c2, c3, c4⟩ := hb
      obtain ⟨_, q0, q1, q2, q3, q4, q5, q6⟩ := ho
      simp only at q0 q1 q2 q3 q4 q5
      go_simp
    try simp only [Act.put, List.setIfInBounds_toArray]
    refine tillK_take (i := 1) (v := .pointer (some ⟨x + 1, 5, none⟩)) rfl (by kernel_rfl) (by kernel_rfl) (by kernel_rfl) (by kernel_rfl) (by kernel_rfl) (by kernel_rfl) (fun _ _ _ h => h) (Or.inl ⟨by rfl, ?hyg_1⟩) (by assumption) ?restg_1
    case hyg_1 =>
      rintro w' ⟨hb, ho, hm⟩
      obtain ⟨_, c0, c1, c2, c3, c4⟩ := hb
      obtain ⟨_, q0, q1, q2, q3, q4, q5, q6⟩ := ho
      simp only at q0 q1 q2 q3 q4 q5
      go_simp
    try simp only [Act.put]
    refine tillK_take (i := 2) (v := .bool false) rfl (by kernel_rfl) (by kernel_rfl) (by kernel_rfl) (by kernel_rfl) (by kernel_rfl) (by kernel_rfl) (fun _ _ _ h => h) (Or.inl ⟨by rfl, ?hyg_2⟩) (by assumption) ?restg_2
    case hyg_2 =>
      rintro w' ⟨hb, ho, hm⟩
      obtain ⟨_, c0, c1, c2, c3, c4⟩ := hb
      obtain ⟨_, q0, q1, q2, q3, q4, q5, q6⟩ := ho
      simp only at q0 q1 q2 q3 q4 q5
      go_simp
    try simp only [Act.put]
    refine tillK_take (i := 3) (v := .agg #[.int .i64 0, .string ⟨#[]⟩, .int .u64 0, .bool false, .bool false]) rfl (by kernel_rfl) (by kernel_rfl) (by kernel_rfl) (by kernel_rfl) (by kernel_rfl) (by kernel_rfl) (fun _ _ _ h => h) (Or.inl ⟨by rfl, ?hyg_3⟩) (by assumption) ?restg_3
    case hyg_3 =>
      rintro w' ⟨hb, ho, hm⟩
      obtain ⟨_, c0, c1, c2, c3, c4⟩ := hb
      obtain ⟨_, q0, q1, q2, q3, q4, q5, q6⟩ := ho
      simp only at q0 q1 q2 q3 q4 q5
      go_simp
    try simp only [Act.put]
    obtain ⟨u0, e0⟩ := HR11.out.s.so 0 (by decide)
    obtain ⟨u1, e1⟩ := HR11.out.s.so 1 (by decide)
    obtain ⟨u2, e2⟩ := HR11.out.s.so 2 (by decide)
    obtain ⟨u3, e3⟩ := HR11.out.s.so 3 (by decide)
    obtain ⟨u4, e4⟩ := HR11.out.s.so 4 (by decide)
    obtain ⟨v0, g0⟩ := HR11.out.a.so 0 (by decide)
    obtain ⟨v1, g1⟩ := HR11.out.a.so 1 (by decide)
    obtain ⟨v2, g2⟩ := HR11.out.a.so 2 (by decide)
    obtain ⟨v3, g3⟩ := HR11.out.a.so 3 (by decide)
    obtain ⟨v4, g4⟩ := HR11.out.a.so 4 (by decide)
    have f4 := HR11.out.s.fz
    have f5 := HR11.out.a.fz
    refine tillK_step (i := 4) (by kernel_rfl) rfl (by rfl) ?_
    intro Kg_4 hKg_4
    have HKg_4 := Lib.hid hKg_4
    clear hKg_4
    go_wp2_with fail
    refine HKg_4.out.out _ _ (fun _ => HX4.out _ _ _ _ _ rfl) ?_
    refine tillK_step (i := 5) (by kernel_rfl) rfl (by rfl) ?_
    intro Kg_5 hKg_5
    have HKg_5 := Lib.hid hKg_5
    clear hKg_5
    go_wp2_with fail
    refine HKg_5.out.out _ _ (fun h => by simp at h) ?_
    refine tillK_done (by kernel_rfl) ?_
    clear S0
    go_wp2_with fail
    refine bodyPost_ret (v := .tuple #[shV s9 A9, ansV (ansC 0 false)]) (by simp [results, Try.results21, go_sem, e0, e1, e2, e3, e4, g0, g1, g2, g3, g4, ansC]) rfl ?_
    rw [HE9.out]
    exact (HFI.out _ rfl).drew
  rcases kix_kno ⟨ta, ti⟩ s.opn 0 with ⟨h3, h4⟩ | ⟨j, sx, h3, hsx, h5⟩
  case inl => exfalso; rw [mayF, h4] at hm; cases hm
  rw [h3, Nat.zero_add]
  have hjl := (List.getElem?_eq_some_iff.1 hsx).1
  obtain ⟨y, hy⟩ : ∃ y, A.om[j]? = some y := ⟨_, List.getElem?_eq_getElem (by rw [HC.out.m.olen]; exact hjl)⟩
  have hyx : y.x = sx := by
    have h6 : s.opn[j]? = some y.x := by rw [← HC.out.m.om, List.getElem?_map, hy]; rfl
    rw [hsx] at h6
    exact (Option.some.inj h6).symm
  have hym := List.mem_of_getElem? hy
  have hys := HZ.out.opn sx (List.mem_of_getElem? hsx)
  obtain ⟨b, off, hoa, _, p0, p1, p2, p3, p4⟩ := Sop.cells HP3.out.m.opn hy
  have i0 : (0 : Int) ≤ (j : Int) := by omega
  have i1 : (j : Int) < (s.opn.length : Int) := by omega
  have i2 : ¬ (j : Int) < 0 := by omega
  have gI : ixI (some j) = (j : Int) := rfl
  rw [gI]
  subst hyx
  obtain ⟨⟨⟨ya, yi⟩, yf, yw, yp⟩, pa, pc⟩ := y
  simp only at p0 p1 p2 p3 p4 hys
  clear gI h3 hjl hsx p0 p1 p2 p3
  by_cases hp0 : yp = []
  · subst hp0
    have HNP : true = true → ∀ y, knoS ⟨ta, ti⟩ s.opn = some y → ¬ 0 < y.puts.length := fun _ y hk => by
      rw [h5] at hk
      obtain rfl := Option.some.inj hk
      simp
    have HEt := Lib.hid (HRR.out.symm.trans (fin_rel HOV.out (by simp only; exact hm) HNP))
    have HZt := Lib.hid (show x + 1 + 1 + 1 + 1 ≤ w3.heap.size from by have := HB3.out.size; have := HSZ.out; omega)
    have HBSt := HP3.out.bs
    have HBSt := Lib.hid (show BS w3 x ⟨s.rows, s.holds, s.opn, s.done, s.ver⟩ ⟨A.ra, A.rc, A.ha, A.hc, A.oa, A.oc, A.om, A.da, A.dc⟩ from HBSt)
    have HOt := Lib.hid HP3.out.ob
    have HRt := Lib.hid HR3.out
    have HCt := Lib.hid (HC.out.later HB3.out)
    have HRo := Lib.hid (show Ros w3 A.ra s.rows from HP3.out.m.rows)
    have HNG := Lib.hid (show ∀ g, NE A.ra g → (g < x ∨ w3.heap.size ≤ g) → NB A.ra s.rows.length g from fun g h _ => h.nb _)
    have HCR := Lib.hid (show s.rows.length ≤ A.rc ∧ A.rc ≤ maxLen from HP3.out.m.cp.r)
    obtain ⟨_, c0, c1, c2, c3, c4⟩ := HP3.out.bs
    obtain ⟨_, q0, q1, q2, q3, q4, q5, q6⟩ := HP3.out.ob
    simp only at q0 q1 q2 q3 q4 q5
    rw [hoa] at c2
    clear HNP hm h5 hys hym hy
    have HOA2 := Lib.hid hoa
    simp only [List.length_nil] at p4
    go_wp2_with fail
    rw [← HOA2.out]
    clear c0 c1 c2 c3 c4 q0 q1 q2 q3 q4 q5 q6 p4 hoa
    have HRL := Lib.hid (released_any B ⟨s.rows, s.holds, s.opn, s.done, s.ver⟩ ⟨A.ra, A.rc, A.ha, A.hc, A.oa, A.oc, A.om, A.da, A.dc⟩ ⟨ta, ti⟩ w3 (Nat.le_trans HBX.out (by have := HZt.out; omega)) HZO.out.ok.2 HZ.out.hold HZ.out.hlen hol HCt.out.m.olen HCt.out.m.holds HCt.out.opn ((HALL.out _ (.inr (.inr (.inl rfl)))).mono (Nat.le_refl _) (by have := HZt.out; omega)))
    unfold RlP at HRL
    obtain ⟨L2, hL2⟩ : ∃ L, dropH ⟨ta, ti⟩ s.holds = L := ⟨_, rfl⟩
    obtain ⟨M2, hM2⟩ : ∃ M, (A.om.filter fun y => !decide (y.x.t = (⟨ta, ti⟩ : Tx))) = M := ⟨_, rfl⟩
    simp only [hL2, hM2] at HRL
    refine HRL.out.mono ?_
    rintro e w8 ⟨ah, dh, rfl, ⟨hH8, hl8, hd8, hm8⟩, hC8, hG8⟩
    have hMx : M2.map (fun y => y.x) = s.opn.filter (fun y => !decide (y.t = (⟨ta, ti⟩ : Tx))) := by
      rw [← hM2, ← HCt.out.m.om, List.filter_map]; rfl
    have hML : M2.length = (s.opn.filter (fun y => !decide (y.t = (⟨ta, ti⟩ : Tx)))).length := by rw [← hMx, List.length_map]
    have hMm : ∀ y ∈ M2, y ∈ A.om := fun y hy => by rw [← hM2] at hy; exact (List.mem_filter.1 hy).1
    obtain ⟨g, hgg, hBg, hgx, n1, n2, n3, n4⟩ := HCt.out.opnG (HALL.out _ (.inr (.inr (.inl rfl)))) hG8 (Nat.le_trans HBX.out (by have := HZt.out; omega))
    have hzt := HZt.out
    have hz8 := hgg.size
    have hBx := HBX.out
    have hxg : x ≠ g := by rcases hgx with h | h <;> omega
    have hbs8 := HBSt.out.grown hgg hxg
    have hO8 := HOt.out.grown hgg (by rcases hgx with h | h <;> omega)
    have hR8 := HRt.out.grown hgg hBg (by rcases hgx with h | h <;> omega) (by rcases hgx with h | h <;> omega)
    have r8 : Ros w8 A.ra s.rows := rw_grown HRo.out hgg (HNG.out g n1 hgx)
    have D8 : Cq 68 3 sdnC B w8 (.slice A.da s.done.length A.dc) s.done := HCt.out.done.grownT sdnT hgg (fun n c e => by injection e with e _ _; exact n3 _ e rfl)
    have P8 : ∀ y ∈ M2, Pus w8 y.a y.x.puts := fun y hy => rw_grown (HCt.out.m.puts y (hMm y hy)) hgg ((n4 y (hMm y hy)).nb _)
    obtain ⟨w9, hw9⟩ : ∃ V, set5s w8 x (.slice A.ra s.rows.length A.rc) (.slice ah L2.length dh) (.slice A.oa M2.length A.oc) (.slice A.da s.done.length A.dc) (.int .u64 (s.ver : Nat)) = V := ⟨_, rfl⟩
    have hg9 : w8.grownBy w9 (some x) := hw9 ▸ set5s_grown _ _ _ _ _ _ _
    have hloA : ∀ q, A.oa = some q → q.block < x := fun q hq => (HALL.out _ (.inr (.inr (.inl rfl))) q hq).2
    have hloD : ∀ q, A.da = some q → q.block < x := fun q hq => (HALL.out _ (.inr (.inr (.inr (.inl rfl)))) q hq).2
    have r9 : Ros w9 A.ra s.rows := rw_grown r8 hg9 (Rw.notin r8 hbs8.kb fits_s.ro)
    have h9 : Hos w9 ah L2 := rw_grown hH8 hg9 (Rw.notin hH8 hbs8.kb fits_s.ho)
    have C9 : Cq 48 5 sopC B w9 (.slice A.oa M2.length A.oc) M2 := hC8.grownT sopT hg9 (fun n c e => by injection e with e _ _; have := hloA _ e; simp at this)
    have D9 : Cq 68 3 sdnC B w9 (.slice A.da s.done.length A.dc) s.done := D8.grownT sdnT hg9 (fun n c e => by injection e with e _ _; have := hloD _ e; simp at this)
    have P9 : ∀ y ∈ M2, Pus w9 y.a y.x.puts := fun y hy => rw_grown (P8 y hy) hg9 (Rw.notin (P8 y hy) hbs8.kb fits_s.pu)
    have k9 : KB w9 x sK := hw9 ▸ hbs8.kb.set5
    obtain ⟨c9_0, c9_1, c9_2, c9_3, c9_4⟩ := hbs8.kb.cells5 (.slice A.ra s.rows.length A.rc) (.slice ah L2.length dh) (.slice A.oa M2.length A.oc) (.slice A.da s.done.length A.dc) (.int .u64 (s.ver : Nat))
    rw [hw9] at c9_0 c9_1 c9_2 c9_3 c9_4
    have hO9 := hO8.grown hg9 (by omega)
    have hR9 := hR8.grown hg9 hBx (by omega) (by omega)
    obtain ⟨a9, d9, w10, hr10, hc10, g9, hg10, hl10⟩ := appD B w9 (.slice A.da s.done.length A.dc) s.done D9 ⟨⟨ta, ti⟩, true⟩ (by have := HZ.out.dlen; omega) (by have := hg9.size; omega)
    have hz9 := hg9.size
    have hl11 : w9.heap.size ≤ g9 ∨ B ≤ g9 ∧ g9 < x ∧ A.da = some ⟨g9, 0, none⟩ := by
      rcases hl10 with h | ⟨h, n', c', e⟩
      · exact .inl h
      · injection e with e _ _
        exact .inr ⟨h, hloD _ e, e⟩
    have r10 : Ros w10 A.ra s.rows := rw_grown r9 hg10 (fun h0 q hq => by
      have h2 := rw_lt r9 h0 q hq
      rcases hl11 with h | ⟨_, h5, h⟩
      · omega
      · exact HNG.out g9 (HCt.out.sd _ h).1 (.inl h5) h0 q hq)
    have h10 : Hos w10 ah L2 := rw_grown h9 hg10 (fun h0 q hq => by
      have h1 := hl8 h0 q hq
      have h2 := rw_lt h9 h0 q hq
      rcases hl11 with h | ⟨_, h, _⟩ <;> omega)
    obtain ⟨_, _, eo, O9, _, _, mo⟩ := C9.form sopT
    injection eo with eo eo2 eo3
    clear eo2
    subst eo
    have O10 : Rw 5 sopC w10 A.oa M2 := rw_grown O9 hg10 (fun h0 q hq => by
      have h2 := rw_lt O9 h0 q hq
      rcases hl11 with h | ⟨_, _, h⟩
      · omega
      · exact (HCt.out.sd _ h).2.2.1 q hq)
    have P10 : ∀ y ∈ M2, Pus w10 y.a y.x.puts := fun y hy => rw_grown (P9 y hy) hg10 (fun h0 q hq => by
      have h2 := rw_lt (P9 y hy) h0 q hq
      rcases hl11 with h | ⟨_, _, h⟩
      · omega
      · exact (HCt.out.sd _ h).2.2.2 y (hMm y hy) q hq)
    obtain ⟨_, _, ed, E10, _, md, Md⟩ := hc10.form sdnT
    injection ed with ed ed2 ed3
    rw [List.length_append, List.length_singleton] at md
    rw [← ed3] at md Md
    clear ed2 ed3
    subst ed
    have k10 : KB w10 x sK := k9.grownK hg10 (by rcases hl11 with h | ⟨_, h, _⟩ <;> omega)
    have ff : ∀ i v, w9.cell? ⟨x, i, none⟩ = some v → w10.cell? ⟨x, i, none⟩ = some v := fun i v e => (World.cell?_of_block (a := ⟨x, i, none⟩) (hg10.block x k9.lt (by simp; rcases hl11 with h | ⟨_, h, _⟩ <;> omega))).trans e
    have hm10 : ShM w10 ⟨s.rows, L2, s.opn.filter (fun y => !decide (y.t = (⟨ta, ti⟩ : Tx))), s.done ++ [⟨⟨ta, ti⟩, true⟩], s.ver⟩ ⟨A.ra, A.rc, ah, dh, A.oa, A.oc, M2, a9, d9⟩ := by
      refine ⟨r10, h10, hMx, O10, P10, E10, ⟨HCR.out, ⟨hd8, hm8⟩, ?_, ⟨by rw [List.length_append, List.length_singleton]; exact md, Md⟩, fun y hy => HCt.out.m.cp.p y (hMm y hy)⟩⟩
      have h1 := HCt.out.m.cp.o
      have h2 := List.length_filter_le (fun y : Sop => !decide (y.t = (⟨ta, ti⟩ : Tx))) s.opn
      simp only at h1 ⊢
      exact ⟨by omega, h1.2⟩
    obtain ⟨w11, hw11⟩ : ∃ V, w10.setCell ⟨x, 3, none⟩ (.slice a9 (s.done.length + 1) d9) = V := ⟨_, rfl⟩
    have hg11 : w10.grownBy w11 (some x) := hw11 ▸ sc_one _ _ _ _
    have hbs11 : BS w11 x ⟨s.rows, L2, s.opn.filter (fun y => !decide (y.t = (⟨ta, ti⟩ : Tx))), s.done ++ [⟨⟨ta, ti⟩, true⟩], s.ver⟩ ⟨A.ra, A.rc, ah, dh, A.oa, A.oc, M2, a9, d9⟩ := by
      refine ⟨?_, ?_, ?_, ?_, ?_, ?_⟩
      · rw [← hw11]; exact k10.set rfl
      · rw [← hw11]; simp [go_sem, ff _ _ c9_0]
      · rw [← hw11]; simp [go_sem, ff _ _ c9_1]
      · rw [← hw11, ← hML]; simp [go_sem, ff _ _ c9_2]
      · rw [← hw11, List.length_append, List.length_singleton]; simp [go_sem, ff _ _ c9_3]
      · rw [← hw11]; simp [go_sem, ff _ _ c9_4]
    have hO11 := (hO9.grown hg10 (by rcases hl11 with h | ⟨_, h, _⟩ <;> omega)).grown hg11 (by omega)
    have hR11 := (hR9.grown hg10 (by rcases hl11 with h | ⟨h, _⟩ <;> omega) (by rcases hl11 with h | ⟨_, h, _⟩ <;> omega) (by rcases hl11 with h | ⟨_, h, _⟩ <;> omega)).grown hg11 hBx (by omega) (by omega)
    have hm11 : ShM w11 ⟨s.rows, L2, s.opn.filter (fun y => !decide (y.t = (⟨ta, ti⟩ : Tx))), s.done ++ [⟨⟨ta, ti⟩, true⟩], s.ver⟩ ⟨A.ra, A.rc, ah, dh, A.oa, A.oc, M2, a9, d9⟩ := hw11 ▸ hm10.set k10 fits_s 3 _
    have hEE : r = (⟨s.rows, L2, s.opn.filter (fun y => !decide (y.t = (⟨ta, ti⟩ : Tx))), s.done ++ [⟨⟨ta, ti⟩, true⟩], s.ver⟩, ansC 0 true) := by rw [HEt.out]; unfold relS; simp only [hL2]
    obtain ⟨s9, hs9⟩ : ∃ z : Sh, (⟨s.rows, L2, s.opn.filter (fun y => !decide (y.t = (⟨ta, ti⟩ : Tx))), s.done ++ [⟨⟨ta, ti⟩, true⟩], s.ver⟩ : Sh) = z := ⟨_, rfl⟩
    obtain ⟨A9, hA9⟩ : ∃ z : Sad, (⟨A.ra, A.rc, ah, dh, A.oa, A.oc, M2, a9, d9⟩ : Sad) = z := ⟨_, rfl⟩
    rw [hs9] at hEE
    rw [hs9, hA9] at hm11 hbs11
    have HE9 := Lib.hid hEE
    have HP11 := Lib.hid (show PB x s9 A9 ⟨kd, ⟨ta, ti⟩, key, P, true⟩ a c u w11 from ⟨hbs11, hO11, hm11⟩)
    have HR11 := Lib.hid hR11
    have HW9 := Lib.hid hw9
    have HW11 := Lib.hid hw11
    have HR10 := Lib.hid hr10
    obtain ⟨z0, e0⟩ := hbs8.kb.so 0 (by decide)
    obtain ⟨z1, e1⟩ := hbs8.kb.so 1 (by decide)
    obtain ⟨z2, e2⟩ := hbs8.kb.so 2 (by decide)
    obtain ⟨z3, e3⟩ := hbs8.kb.so 3 (by decide)
    obtain ⟨z4, e4⟩ := hbs8.kb.so 4 (by decide)
    have f8 := hbs8.kb.fz
    have f10 := k10.fz
    have d10 := ff _ _ c9_3
    obtain ⟨_, q0, q1, q2, q3, q4, q5, q6⟩ := hO9
    simp only at q0 q1 q2 q3 q4 q5
    clear HRL hL2 hM2 hH8 hl8 hd8 hm8 hC8 hG8 hMx hML hMm hgg hBg hgx n1 n2 n3 n4 hzt hz8 hBx hxg hbs8 hO8 hR8 r8 D8 P8 hw9 hg9 hloA hloD r9 h9 C9 D9 P9 k9 c9_0 c9_1 c9_2 c9_4 hR9 hr10 hc10 hg10 hl10 hz9 hl11 r10 h10 O9 mo O10 P10 E10 md Md k10 ff hm10 hw11 hg11 hbs11 hO11 hR11 hm11 hEE hs9 hA9 eo3
    go_upto_region 16 with (fail)
    have hW9 := HW9.out
    simp only [set5s] at hW9
    rw [hW9]
    clear hW9
    clear e0 e1 e2 e3 e4 f8
    go_upto_region 17 with (at_builtin; refine Lib.wpList_append_run _ rfl _ _ 25 25 rfl _ (.slice (some ⟨w9.heap.size, 0, none⟩) 1 1) rfl rfl _ _ HR10.out ?_)
    rw [HW11.out]
    clear f10 d10 q0 q1 q2 q3 q4 q5 q6 c9_3
    refine tillK_begin (S := PB x s9 A9 ⟨kd, ⟨ta, ti⟩, key, P, true⟩ a c u) (k := 5) (by kernel_rfl) ?_
    have S0 : PB x s9 A9 ⟨kd, ⟨ta, ti⟩, key, P, true⟩ a c u w11.drew := HP11.out.later (Below.refl _ _).drew
    have HRe := Lib.hid (HR11.out.later HR11.out.size (Below.refl _ _).drew)
    have HFI := Lib.hid (OrB.mk' (r := (s9, ansC 0 true)) HR11.out HP11.out.m)
    have HX4 := Lib.hid (fun v0 v1 v2 v3 v4 (e : sK = [kdV v0, kdV v1, kdV v2, kdV v3, kdV v4]) => S0.set4 HRe.out.s (by omega) v0 v1 v2 v3 v4 e)
    refine tillK_take (i := 0) (v := .agg #[.slice A9.ra s9.rows.length A9.rc, .slice A9.ha s9.holds.length A9.hc, .slice A9.oa s9.opn.length A9.oc, .slice A9.da s9.done.length A9.dc, .int .u64 (s9.ver : Nat)]) rfl (by kernel_rfl) (by kernel_rfl) (by kernel_rfl) (by kernel_rfl) (by kernel_rfl) (by kernel_rfl) (fun _ _ _ h => h) (Or.inl ⟨by rfl, ?hyh_0⟩) (by assumption) ?resth_0
    case hyh_0 =>
      rintro w' ⟨hb, ho, hm⟩
      obtain ⟨_, c0, c1, c2, c3, c4⟩ := hb
      obtain ⟨_, q0, q1, q2, q3, q4, q5, q6⟩ := ho
      simp only at q0 q1 q2 q3 q4 q5
      go_simp
    try simp only [Act.put, List.setIfInBounds_toArray]
    refine tillK_take (i := 1) (v := .pointer (some ⟨x + 1, 5, none⟩)) rfl (by kernel_rfl) (by kernel_rfl) (by kernel_rfl) (by kernel_rfl) (by kernel_rfl) (by kernel_rfl) (fun _ _ _ h => h) (Or.inl ⟨by rfl, ?hyh_1⟩) (by assumption) ?resth_1
    case hyh_1 =>
      rintro w' ⟨hb, ho, hm⟩
      obtain ⟨_, c0, c1, c2, c3, c4⟩ := hb
      obtain ⟨_, q0, q1, q2, q3, q4, q5, q6⟩ := ho
      simp only at q0 q1 q2 q3 q4 q5
      go_simp
    try simp only [Act.put]
    refine tillK_take (i := 2) (v := .bool true) rfl (by kernel_rfl) (by kernel_rfl) (by kernel_rfl) (by kernel_rfl) (by kernel_rfl) (by kernel_rfl) (fun _ _ _ h => h) (Or.inl ⟨by rfl, ?hyh_2⟩) (by assumption) ?resth_2
    case hyh_2 =>
      rintro w' ⟨hb, ho, hm⟩
      obtain ⟨_, c0, c1, c2, c3, c4⟩ := hb
      obtain ⟨_, q0, q1, q2, q3, q4, q5, q6⟩ := ho
      simp only at q0 q1 q2 q3 q4 q5
      go_simp
    try simp only [Act.put]
    refine tillK_take (i := 3) (v := .agg #[.int .i64 0, .string ⟨#[]⟩, .int .u64 0, .bool false, .bool true]) rfl (by kernel_rfl) (by kernel_rfl) (by kernel_rfl) (by kernel_rfl) (by kernel_rfl) (by kernel_rfl) (fun _ _ _ h => h) (Or.inl ⟨by rfl, ?hyh_3⟩) (by assumption) ?resth_3
    case hyh_3 =>
      rintro w' ⟨hb, ho, hm⟩
      obtain ⟨_, c0, c1, c2, c3, c4⟩ := hb
      obtain ⟨_, q0, q1, q2, q3, q4, q5, q6⟩ := ho
      simp only at q0 q1 q2 q3 q4 q5
      go_simp
    try simp only [Act.put]
    obtain ⟨u0, e0⟩ := HR11.out.s.so 0 (by decide)
    obtain ⟨u1, e1⟩ := HR11.out.s.so 1 (by decide)
    obtain ⟨u2, e2⟩ := HR11.out.s.so 2 (by decide)
    obtain ⟨u3, e3⟩ := HR11.out.s.so 3 (by decide)
    obtain ⟨u4, e4⟩ := HR11.out.s.so 4 (by decide)
    obtain ⟨v0, g0⟩ := HR11.out.a.so 0 (by decide)
    obtain ⟨v1, g1⟩ := HR11.out.a.so 1 (by decide)
    obtain ⟨v2, g2⟩ := HR11.out.a.so 2 (by decide)
    obtain ⟨v3, g3⟩ := HR11.out.a.so 3 (by decide)
    obtain ⟨v4, g4⟩ := HR11.out.a.so 4 (by decide)
    have f4 := HR11.out.s.fz
    have f5 := HR11.out.a.fz
    refine tillK_step (i := 4) (by kernel_rfl) rfl (by rfl) ?_
    intro Kh_4 hKh_4
    have HKh_4 := Lib.hid hKh_4
    clear hKh_4
    go_wp2_with fail
    refine HKh_4.out.out _ _ (fun _ => HX4.out _ _ _ _ _ rfl) ?_
    refine tillK_step (i := 5) (by kernel_rfl) rfl (by rfl) ?_
    intro Kh_5 hKh_5
    have HKh_5 := Lib.hid hKh_5
    clear hKh_5
    go_wp2_with fail
    refine HKh_5.out.out _ _ (fun h => by simp at h) ?_
    refine tillK_done (by kernel_rfl) ?_
    clear S0
    go_wp2_with fail
    refine bodyPost_ret (v := .tuple #[shV s9 A9, ansV (ansC 0 true)]) (by simp [results, Try.results21, go_sem, e0, e1, e2, e3, e4, g0, g1, g2, g3, g4, ansC]) rfl ?_
    rw [HE9.out]
    exact (HFI.out _ rfl).drew
  have hpl : 0 < yp.length := List.length_pos_iff.2 hp0
  have hpI : (0 : Int) < (yp.length : Int) := by omega
  obtain ⟨V1, hV1⟩ : ∃ v, (s.ver + 1) % 18446744073709551616 = v := ⟨_, rfl⟩
  have hwr : IntKind.u64.wrap ((s.ver : Int) + 1) = (V1 : Int) := by rw [wrap_u64, hV1]
  obtain ⟨al, hal⟩ : ∃ z, allR s.rows yp V1 = z := ⟨_, rfl⟩
  obtain ⟨R1, er2⟩ := al
  have hr2 := HRR.out.symm.trans (fin_all (R := R1) (e := er2) HOV.out hm h5 rfl hpl (by simp only; rw [hV1]; exact hal))
  rw [hV1] at hr2
  have HE := Lib.hid hr2
  have HAL := Lib.hid (fun w' (h : Below W.heap.size W w') => pAll_any s.rows.length A.rc yp.length pc V1 A.ra pa s.rows yp rfl HZ.out.rlen HZ.out.rows rfl (by have := hys.2.1; omega) hys.2.2 w' (HC.out.m.rows.later h) ((HC.out.m.puts _ hym).later h))
  rw [hal] at HAL
  have HOA2 := Lib.hid hoa
  clear hr2 hal hV1 hm h5 hys hp0 hpl
  obtain ⟨_, c0, c1, c2, c3, c4⟩ := HP3.out.bs
  obtain ⟨_, q0, q1, q2, q3, q4, q5, q6⟩ := HP3.out.ob
  rw [hoa] at c2
  simp only at q0 q1 q2 q3 q4 q5
  go_upto_region 11 with (fail)
  clear c0 c1 c2 c3 c4 q0 q1 q2 q3 q4 q5 q6 p4 hpI
  refine tillK_begin (S := PB x s A ⟨kd, ⟨ta, ti⟩, key, P, true⟩ a c u) (k := 16) (by kernel_rfl) ?_
  have S0 : PB x s A ⟨kd, ⟨ta, ti⟩, key, P, true⟩ a c u w3.drew := HP3.out.later (Below.refl _ _).drew
  have HB3d := Lib.hid (show Below W.heap.size W w3.drew from HB3.out.trans ((Below.refl w3.heap.size w3).drew.mono HB3.out.size))
  refine tillK_take (i := 0) (v := .pointer (some ⟨x, 0, none⟩)) rfl (by kernel_rfl) (by kernel_rfl) (by kernel_rfl) (by kernel_rfl) (by kernel_rfl) (by kernel_rfl) (fun _ _ _ h => h) (Or.inl ⟨by rfl, ?hyk_0⟩) (by assumption) ?restk_0
  case hyk_0 =>
    rintro w' ⟨hb, ho, hm'⟩
    obtain ⟨_, c0, c1, c2, c3, c4⟩ := hb
    obtain ⟨_, q0, q1, q2, q3, q4, q5, q6⟩ := ho
    rw [hoa] at c2
    simp only at q0 q1 q2 q3 q4 q5
    obtain ⟨_, p0, p1, p2, p3, p4⟩ := op_at hm' hoa hy
    simp only at p0 p1 p2 p3 p4
    go_simp
  try simp only [Act.put, List.setIfInBounds_toArray]
  refine tillK_take (i := 1) (v := .slice A.ra s.rows.length A.rc) rfl (by kernel_rfl) (by kernel_rfl) (by kernel_rfl) (by kernel_rfl) (by kernel_rfl) (by kernel_rfl) (fun _ _ _ h => h) (Or.inl ⟨by rfl, ?hyk_1⟩) (by assumption) ?restk_1
  case hyk_1 =>
    rintro w' ⟨hb, ho, hm'⟩
    obtain ⟨_, c0, c1, c2, c3, c4⟩ := hb
    obtain ⟨_, q0, q1, q2, q3, q4, q5, q6⟩ := ho
    rw [hoa] at c2
    simp only at q0 q1 q2 q3 q4 q5
    obtain ⟨_, p0, p1, p2, p3, p4⟩ := op_at hm' hoa hy
    simp only at p0 p1 p2 p3 p4
    go_simp
  try simp only [Act.put]
  refine tillK_take (i := 2) (v := .pointer (some ⟨x, 2, none⟩)) rfl (by kernel_rfl) (by kernel_rfl) (by kernel_rfl) (by kernel_rfl) (by kernel_rfl) (by kernel_rfl) (fun _ _ _ h => h) (Or.inl ⟨by rfl, ?hyk_2⟩) (by assumption) ?restk_2
  case hyk_2 =>
    rintro w' ⟨hb, ho, hm'⟩
    obtain ⟨_, c0, c1, c2, c3, c4⟩ := hb
    obtain ⟨_, q0, q1, q2, q3, q4, q5, q6⟩ := ho
    rw [hoa] at c2
    simp only at q0 q1 q2 q3 q4 q5
    obtain ⟨_, p0, p1, p2, p3, p4⟩ := op_at hm' hoa hy
    simp only at p0 p1 p2 p3 p4
    go_simp
  try simp only [Act.put]
  refine tillK_take (i := 3) (v := .slice (some ⟨b, off, none⟩) s.opn.length A.oc) rfl (by kernel_rfl) (by kernel_rfl) (by kernel_rfl) (by kernel_rfl) (by kernel_rfl) (by kernel_rfl) (fun _ _ _ h => h) (Or.inl ⟨by rfl, ?hyk_3⟩) (by assumption) ?restk_3
  case hyk_3 =>
    rintro w' ⟨hb, ho, hm'⟩
    obtain ⟨_, c0, c1, c2, c3, c4⟩ := hb
    obtain ⟨_, q0, q1, q2, q3, q4, q5, q6⟩ := ho
    rw [hoa] at c2
    simp only at q0 q1 q2 q3 q4 q5
    obtain ⟨_, p0, p1, p2, p3, p4⟩ := op_at hm' hoa hy
    simp only at p0 p1 p2 p3 p4
    go_simp
  try simp only [Act.put]
  refine tillK_take (i := 4) (v := .int .i64 j) rfl (by kernel_rfl) (by kernel_rfl) (by kernel_rfl) (by kernel_rfl) (by kernel_rfl) (by kernel_rfl) (fun _ _ _ h => h) (Or.inl ⟨by rfl, ?hyk_4⟩) (by assumption) ?restk_4
  case hyk_4 =>
    rintro w' ⟨hb, ho, hm'⟩
    obtain ⟨_, c0, c1, c2, c3, c4⟩ := hb
    obtain ⟨_, q0, q1, q2, q3, q4, q5, q6⟩ := ho
    rw [hoa] at c2
    simp only at q0 q1 q2 q3 q4 q5
    obtain ⟨_, p0, p1, p2, p3, p4⟩ := op_at hm' hoa hy
    simp only at p0 p1 p2 p3 p4
    go_simp
  try simp only [Act.put]
  refine tillK_take (i := 5) (v := .pointer (some ⟨b, off + j * 5, none⟩)) rfl (by kernel_rfl) (by kernel_rfl) (by kernel_rfl) (by kernel_rfl) (by kernel_rfl) (by kernel_rfl) (fun _ _ _ h => h) (Or.inl ⟨by rfl, ?hyk_5⟩) (by assumption) ?restk_5
  case hyk_5 =>
    rintro w' ⟨hb, ho, hm'⟩
    obtain ⟨_, c0, c1, c2, c3, c4⟩ := hb
    obtain ⟨_, q0, q1, q2, q3, q4, q5, q6⟩ := ho
    rw [hoa] at c2
    simp only at q0 q1 q2 q3 q4 q5
    obtain ⟨_, p0, p1, p2, p3, p4⟩ := op_at hm' hoa hy
    simp only at p0 p1 p2 p3 p4
    go_simp
  try simp only [Act.put]
  refine tillK_take (i := 6) (v := .pointer (some ⟨b, off + j * 5 + 4, none⟩)) rfl (by kernel_rfl) (by kernel_rfl) (by kernel_rfl) (by kernel_rfl) (by kernel_rfl) (by kernel_rfl) (fun _ _ _ h => h) (Or.inl ⟨by rfl, ?hyk_6⟩) (by assumption) ?restk_6
  case hyk_6 =>
    rintro w' ⟨hb, ho, hm'⟩
    obtain ⟨_, c0, c1, c2, c3, c4⟩ := hb
    obtain ⟨_, q0, q1, q2, q3, q4, q5, q6⟩ := ho
    rw [hoa] at c2
    simp only at q0 q1 q2 q3 q4 q5
    obtain ⟨_, p0, p1, p2, p3, p4⟩ := op_at hm' hoa hy
    simp only at p0 p1 p2 p3 p4
    go_simp
  try simp only [Act.put]
  refine tillK_take (i := 7) (v := .slice pa yp.length pc) rfl (by kernel_rfl) (by kernel_rfl) (by kernel_rfl) (by kernel_rfl) (by kernel_rfl) (by kernel_rfl) (fun _ _ _ h => h) (Or.inl ⟨by rfl, ?hyk_7⟩) (by assumption) ?restk_7
  case hyk_7 =>
    rintro w' ⟨hb, ho, hm'⟩
    obtain ⟨_, c0, c1, c2, c3, c4⟩ := hb
    obtain ⟨_, q0, q1, q2, q3, q4, q5, q6⟩ := ho
    rw [hoa] at c2
    simp only at q0 q1 q2 q3 q4 q5
    obtain ⟨_, p0, p1, p2, p3, p4⟩ := op_at hm' hoa hy
    simp only at p0 p1 p2 p3 p4
    go_simp
  try simp only [Act.put]
  refine tillK_take (i := 8) (v := .pointer (some ⟨x, 4, none⟩)) rfl (by kernel_rfl) (by kernel_rfl) (by kernel_rfl) (by kernel_rfl) (by kernel_rfl) (by kernel_rfl) (fun _ _ _ h => h) (Or.inl ⟨by rfl, ?hyk_8⟩) (by assumption) ?restk_8
  case hyk_8 =>
    rintro w' ⟨hb, ho, hm'⟩
    obtain ⟨_, c0, c1, c2, c3, c4⟩ := hb
    obtain ⟨_, q0, q1, q2, q3, q4, q5, q6⟩ := ho
    rw [hoa] at c2
    simp only at q0 q1 q2 q3 q4 q5
    obtain ⟨_, p0, p1, p2, p3, p4⟩ := op_at hm' hoa hy
    simp only at p0 p1 p2 p3 p4
    go_simp
  try simp only [Act.put]
  refine tillK_take (i := 9) (v := .int .u64 (s.ver : Nat)) rfl (by kernel_rfl) (by kernel_rfl) (by kernel_rfl) (by kernel_rfl) (by kernel_rfl) (by kernel_rfl) (fun _ _ _ h => h) (Or.inl ⟨by rfl, ?hyk_9⟩) (by assumption) ?restk_9
  case hyk_9 =>
    rintro w' ⟨hb, ho, hm'⟩
    obtain ⟨_, c0, c1, c2, c3, c4⟩ := hb
    obtain ⟨_, q0, q1, q2, q3, q4, q5, q6⟩ := ho
    rw [hoa] at c2
    simp only at q0 q1 q2 q3 q4 q5
    obtain ⟨_, p0, p1, p2, p3, p4⟩ := op_at hm' hoa hy
    simp only at p0 p1 p2 p3 p4
    go_simp
  try simp only [Act.put]
  refine tillK_take (i := 10) (v := .int .u64 (V1 : Nat)) rfl (by kernel_rfl) (by kernel_rfl) (by kernel_rfl) (by kernel_rfl) (by kernel_rfl) (by kernel_rfl) (fun _ _ _ h => h) (Or.inl ⟨by rfl, ?hyk_10⟩) (by assumption) ?restk_10
  case hyk_10 =>
    rintro w' ⟨hb, ho, hm'⟩
    obtain ⟨_, c0, c1, c2, c3, c4⟩ := hb
    obtain ⟨_, q0, q1, q2, q3, q4, q5, q6⟩ := ho
    rw [hoa] at c2
    simp only at q0 q1 q2 q3 q4 q5
    obtain ⟨_, p0, p1, p2, p3, p4⟩ := op_at hm' hoa hy
    simp only at p0 p1 p2 p3 p4
    go_simp
  try simp only [Act.put]
  refine tillK_step (i := 11) (by kernel_rfl) rfl (by rfl) ?_
  intro Kk_11 hKk_11
  have HKk_11 := Lib.hid hKk_11
  clear hKk_11
  go_wp2_with fail
  refine (HAL.out _ HB3d.out).mono ?_
  rintro e w5 ⟨aR, dR, rfl, hR5, ⟨hlR, hcR⟩, hb5⟩
  have HP5 := Lib.hid (S0.later hb5)
  have HB5 := Lib.hid (HB3d.out.trans (hb5.mono HB3d.out.size))
  have HR5 := Lib.hid (HR3.out.later HR3.out.size ((Below.refl w3.heap.size w3).drew.trans hb5))
  have S5 := HP5.out
  have HRo5 := Lib.hid hR5
  have HLR := Lib.hid (And.intro hlR hcR)
  have HZ5 := Lib.hid (show x + 1 + 1 + 1 + 1 ≤ w3.drew.heap.size from by have := HB3d.out.size; have := HSZ.out; omega)
  simp only at hR5 hlR hcR
  clear hR5 hlR hcR hb5 S0
  dsimp only
  refine HKk_11.out.out _ _ (fun _ => HP5.out) ?_
  refine tillK_take (i := 12) (v := .tuple #[.slice aR R1.length dR, .int .i64 (er2 : Nat)]) rfl (by kernel_rfl) (by kernel_rfl) (by kernel_rfl) (by kernel_rfl) (by kernel_rfl) (by kernel_rfl) (fun _ _ _ h => h) (Or.inl ⟨by rfl, ?hyk_12⟩) (by assumption) ?restk_12
  case hyk_12 =>
    rintro w' ⟨hb, ho, hm'⟩
    obtain ⟨_, c0, c1, c2, c3, c4⟩ := hb
    obtain ⟨_, q0, q1, q2, q3, q4, q5, q6⟩ := ho
    rw [hoa] at c2
    simp only at q0 q1 q2 q3 q4 q5
    obtain ⟨_, p0, p1, p2, p3, p4⟩ := op_at hm' hoa hy
    simp only at p0 p1 p2 p3 p4
    go_simp
  try simp only [Act.put, List.setIfInBounds_toArray]
  refine tillK_take (i := 13) (v := .slice aR R1.length dR) rfl (by kernel_rfl) (by kernel_rfl) (by kernel_rfl) (by kernel_rfl) (by kernel_rfl) (by kernel_rfl) (fun _ _ _ h => h) (Or.inl ⟨by rfl, ?hyk_13⟩) (by assumption) ?restk_13
  case hyk_13 =>
    rintro w' ⟨hb, ho, hm'⟩
    obtain ⟨_, c0, c1, c2, c3, c4⟩ := hb
    obtain ⟨_, q0, q1, q2, q3, q4, q5, q6⟩ := ho
    rw [hoa] at c2
    simp only at q0 q1 q2 q3 q4 q5
    obtain ⟨_, p0, p1, p2, p3, p4⟩ := op_at hm' hoa hy
    simp only at p0 p1 p2 p3 p4
    go_simp
  try simp only [Act.put]
  refine tillK_take (i := 14) (v := .int .i64 (er2 : Nat)) rfl (by kernel_rfl) (by kernel_rfl) (by kernel_rfl) (by kernel_rfl) (by kernel_rfl) (by kernel_rfl) (fun _ _ _ h => h) (Or.inl ⟨by rfl, ?hyk_14⟩) (by assumption) ?restk_14
  case hyk_14 =>
    rintro w' ⟨hb, ho, hm'⟩
    obtain ⟨_, c0, c1, c2, c3, c4⟩ := hb
    obtain ⟨_, q0, q1, q2, q3, q4, q5, q6⟩ := ho
    rw [hoa] at c2
    simp only at q0 q1 q2 q3 q4 q5
    obtain ⟨_, p0, p1, p2, p3, p4⟩ := op_at hm' hoa hy
    simp only at p0 p1 p2 p3 p4
    go_simp
  try simp only [Act.put]
  refine tillK_step (i := 15) (by kernel_rfl) rfl (by rfl) ?_
  intro Kk_15 hKk_15
  have HKk_15 := Lib.hid hKk_15
  clear hKk_15
  go_wp2_with fail
  refine HKk_15.out.out _ _ (fun _ => HP5.out) ?_
  refine tillK_step (i := 16) (by kernel_rfl) rfl (by rfl) ?_
  intro Kk_16 hKk_16
  have HKk_16 := Lib.hid hKk_16
  clear hKk_16
  go_wp2_with fail
  refine HKk_16.out.out _ _ (fun h => by simp at h) ?_
  refine tillK_done (by kernel_rfl) ?_
  clear S5 hoa
  by_cases he2 : er2 = 0
  case neg =>
    have hr1 := HE.out
    rw [if_pos he2] at hr1
    have HE1 := Lib.hid hr1
    have g1 : ((er2 : Int) == 0) = false := by simp; omega
    have g2 : ((er2 : Int) != 0) = true := by simp; omega
    have HFI := Lib.hid (OrB.mk' (r := (s, ansE er2)) HR5.out HP5.out.m)
    obtain ⟨_, c0, c1, c2, c3, c4⟩ := HP5.out.bs
    clear hr1 he2
    go_upto_region 13 with (fail)
    clear g1 g2
    obtain ⟨u0, e0⟩ := HR5.out.s.so 0 (by decide)
    obtain ⟨u1, e1⟩ := HR5.out.s.so 1 (by decide)
    obtain ⟨u2, e2⟩ := HR5.out.s.so 2 (by decide)
    obtain ⟨u3, e3⟩ := HR5.out.s.so 3 (by decide)
    obtain ⟨u4, e4⟩ := HR5.out.s.so 4 (by decide)
    obtain ⟨v0, g0⟩ := HR5.out.a.so 0 (by decide)
    obtain ⟨v1, g1⟩ := HR5.out.a.so 1 (by decide)
    obtain ⟨v2, g2⟩ := HR5.out.a.so 2 (by decide)
    obtain ⟨v3, g3⟩ := HR5.out.a.so 3 (by decide)
    obtain ⟨v4, g4⟩ := HR5.out.a.so 4 (by decide)
    have f4 := HR5.out.s.fz
    have f5 := HR5.out.a.fz
    go_wp2_with fail
    refine bodyPost_ret (v := .tuple #[shV s A, ansV (ansE er2)]) (by simp [results, Try.results21, go_sem, e0, e1, e2, e3, e4, g0, g1, g2, g3, g4, ansE]) rfl ?_
    rw [HE1.out]
    exact HFI.out _ rfl
  subst he2
  have hr1 := HE.out
  rw [if_neg (by simp)] at hr1
  have HEt := Lib.hid hr1
  obtain ⟨w6, hw6⟩ : ∃ V, (w5.setCell ⟨x, 0, none⟩ (.slice aR R1.length dR)).setCell ⟨x, 4, none⟩ (.int .u64 (V1 : Nat)) = V := ⟨_, rfl⟩
  have hg6 : w5.grownBy w6 (some x) := hw6 ▸ grown_trans (sc_one _ _ _ _) (sc_one _ _ _ _)
  have hx5 := HBX.out
  have hz5 := HZ5.out
  obtain ⟨k0, d0, d1, d2, d3, d4⟩ := HP5.out.bs
  have HBSt := Lib.hid (show BS w6 x ⟨R1, s.holds, s.opn, s.done, V1⟩ ⟨aR, dR, A.ha, A.hc, A.oa, A.oc, A.om, A.da, A.dc⟩ from by
    rw [← hw6]
    have h1 := k0.set (i := 0) (v := .slice aR R1.length dR) rfl
    exact ⟨h1.set (i := 4) (v := .int .u64 (V1 : Nat)) rfl, by simp [go_sem, d0], by simp [go_sem, d1], by simp [go_sem, d2], by simp [go_sem, d3], by simp [go_sem, d4]⟩)
  have HOt := Lib.hid (HP5.out.ob.grown hg6 (by omega))
  have HRt := Lib.hid (HR5.out.grown hg6 hx5 (by omega) (by omega))
  have HCt := Lib.hid ((HC.out.later HB5.out).far HALL.out hg6 (Nat.le_refl _))
  have HRo := Lib.hid (show Ros w6 aR R1 from rw_grown HRo5.out hg6 (Rw.notin HRo5.out k0 fits_s.ro))
  have HZt := Lib.hid (show x + 1 + 1 + 1 + 1 ≤ w6.heap.size from by have := hg6.size; have := HB5.out.size; have := HSZ.out; omega)
  have HNG := Lib.hid (show ∀ g, NE A.ra g → (g < x ∨ w6.heap.size ≤ g) → NB aR R1.length g from fun g _ h h0 q hq => by
    have h1 := HLR.out.1 h0 q hq
    have h2 := rw_lt HRo.out h0 q hq
    rcases h with h | h <;> omega)
  have HCR := Lib.hid (show R1.length ≤ dR ∧ dR ≤ maxLen from HLR.out.2)
  have HW6 := Lib.hid hw6
  have f6 := k0.fz
  obtain ⟨_, c0, c1, c2, c3, c4⟩ := HBSt.out
  obtain ⟨_, q0, q1, q2, q3, q4, q5, q6⟩ := HOt.out
  simp only at q0 q1 q2 q3 q4 q5 c0 c1 c2 c3 c4
  clear hr1 hw6 hg6 hx5 hz5 k0 d1 d2 d3
  go_upto_region 15 with (fail)
  rw [HW6.out]
  clear d0 d4 f6 hwr
  go_wp2_with fail
  clear c0 c1 c2 c3 c4 q0 q1 q2 q3 q4 q5 q6
  have HRL := Lib.hid (released_any B ⟨R1, s.holds, s.opn, s.done, V1⟩ ⟨aR, dR, A.ha, A.hc, A.oa, A.oc, A.om, A.da, A.dc⟩ ⟨ta, ti⟩ w6 (Nat.le_trans HBX.out (by have := HZt.out; omega)) HZO.out.ok.2 HZ.out.hold HZ.out.hlen hol HCt.out.m.olen HCt.out.m.holds HCt.out.opn ((HALL.out _ (.inr (.inr (.inl rfl)))).mono (Nat.le_refl _) (by have := HZt.out; omega)))
  unfold RlP at HRL
  obtain ⟨L2, hL2⟩ : ∃ L, dropH ⟨ta, ti⟩ s.holds = L := ⟨_, rfl⟩
  obtain ⟨M2, hM2⟩ : ∃ M, (A.om.filter fun y => !decide (y.x.t = (⟨ta, ti⟩ : Tx))) = M := ⟨_, rfl⟩
  simp only [hL2, hM2] at HRL
  refine HRL.out.mono ?_
  rintro e w8 ⟨ah, dh, rfl, ⟨hH8, hl8, hd8, hm8⟩, hC8, hG8⟩
  have hMx : M2.map (fun y => y.x) = s.opn.filter (fun y => !decide (y.t = (⟨ta, ti⟩ : Tx))) := by
    rw [← hM2, ← HCt.out.m.om, List.filter_map]; rfl
  have hML : M2.length = (s.opn.filter (fun y => !decide (y.t = (⟨ta, ti⟩ : Tx)))).length := by rw [← hMx, List.length_map]
  have hMm : ∀ y ∈ M2, y ∈ A.om := fun y hy => by rw [← hM2] at hy; exact (List.mem_filter.1 hy).1
  obtain ⟨g, hgg, hBg, hgx, n1, n2, n3, n4⟩ := HCt.out.opnG (HALL.out _ (.inr (.inr (.inl rfl)))) hG8 (Nat.le_trans HBX.out (by have := HZt.out; omega))
  have hzt := HZt.out
  have hz8 := hgg.size
  have hBx := HBX.out
  have hxg : x ≠ g := by rcases hgx with h | h <;> omega
  have hbs8 := HBSt.out.grown hgg hxg
  have hO8 := HOt.out.grown hgg (by rcases hgx with h | h <;> omega)
  have hR8 := HRt.out.grown hgg hBg (by rcases hgx with h | h <;> omega) (by rcases hgx with h | h <;> omega)
  have r8 : Ros w8 aR R1 := rw_grown HRo.out hgg (HNG.out g n1 hgx)
  have D8 : Cq 68 3 sdnC B w8 (.slice A.da s.done.length A.dc) s.done := HCt.out.done.grownT sdnT hgg (fun n c e => by injection e with e _ _; exact n3 _ e rfl)
  have P8 : ∀ y ∈ M2, Pus w8 y.a y.x.puts := fun y hy => rw_grown (HCt.out.m.puts y (hMm y hy)) hgg ((n4 y (hMm y hy)).nb _)
  obtain ⟨w9, hw9⟩ : ∃ V, set5s w8 x (.slice aR R1.length dR) (.slice ah L2.length dh) (.slice A.oa M2.length A.oc) (.slice A.da s.done.length A.dc) (.int .u64 (V1 : Nat)) = V := ⟨_, rfl⟩
  have hg9 : w8.grownBy w9 (some x) := hw9 ▸ set5s_grown _ _ _ _ _ _ _
  have hloA : ∀ q, A.oa = some q → q.block < x := fun q hq => (HALL.out _ (.inr (.inr (.inl rfl))) q hq).2
  have hloD : ∀ q, A.da = some q → q.block < x := fun q hq => (HALL.out _ (.inr (.inr (.inr (.inl rfl)))) q hq).2
  have r9 : Ros w9 aR R1 := rw_grown r8 hg9 (Rw.notin r8 hbs8.kb fits_s.ro)
  have h9 : Hos w9 ah L2 := rw_grown hH8 hg9 (Rw.notin hH8 hbs8.kb fits_s.ho)
  have C9 : Cq 48 5 sopC B w9 (.slice A.oa M2.length A.oc) M2 := hC8.grownT sopT hg9 (fun n c e => by injection e with e _ _; have := hloA _ e; simp at this)
  have D9 : Cq 68 3 sdnC B w9 (.slice A.da s.done.length A.dc) s.done := D8.grownT sdnT hg9 (fun n c e => by injection e with e _ _; have := hloD _ e; simp at this)
  have P9 : ∀ y ∈ M2, Pus w9 y.a y.x.puts := fun y hy => rw_grown (P8 y hy) hg9 (Rw.notin (P8 y hy) hbs8.kb fits_s.pu)
  have k9 : KB w9 x sK := hw9 ▸ hbs8.kb.set5
  obtain ⟨c9_0, c9_1, c9_2, c9_3, c9_4⟩ := hbs8.kb.cells5 (.slice aR R1.length dR) (.slice ah L2.length dh) (.slice A.oa M2.length A.oc) (.slice A.da s.done.length A.dc) (.int .u64 (V1 : Nat))
  rw [hw9] at c9_0 c9_1 c9_2 c9_3 c9_4
  have hO9 := hO8.grown hg9 (by omega)
  have hR9 := hR8.grown hg9 hBx (by omega) (by omega)
  obtain ⟨a9, d9, w10, hr10, hc10, g9, hg10, hl10⟩ := appD B w9 (.slice A.da s.done.length A.dc) s.done D9 ⟨⟨ta, ti⟩, true⟩ (by have := HZ.out.dlen; omega) (by have := hg9.size; omega)
  have hz9 := hg9.size
  have hl11 : w9.heap.size ≤ g9 ∨ B ≤ g9 ∧ g9 < x ∧ A.da = some ⟨g9, 0, none⟩ := by
    rcases hl10 with h | ⟨h, n', c', e⟩
    · exact .inl h
    · injection e with e _ _
      exact .inr ⟨h, hloD _ e, e⟩
  have r10 : Ros w10 aR R1 := rw_grown r9 hg10 (fun h0 q hq => by
    have h2 := rw_lt r9 h0 q hq
    rcases hl11 with h | ⟨_, h5, h⟩
    · omega
    · exact HNG.out g9 (HCt.out.sd _ h).1 (.inl h5) h0 q hq)
  have h10 : Hos w10 ah L2 := rw_grown h9 hg10 (fun h0 q hq => by
    have h1 := hl8 h0 q hq
    have h2 := rw_lt h9 h0 q hq
    rcases hl11 with h | ⟨_, h, _⟩ <;> omega)
  obtain ⟨_, _, eo, O9, _, _, mo⟩ := C9.form sopT
  injection eo with eo eo2 eo3
  clear eo2
  subst eo
  have O10 : Rw 5 sopC w10 A.oa M2 := rw_grown O9 hg10 (fun h0 q hq => by
    have h2 := rw_lt O9 h0 q hq
    rcases hl11 with h | ⟨_, _, h⟩
    · omega
    · exact (HCt.out.sd _ h).2.2.1 q hq)
  have P10 : ∀ y ∈ M2, Pus w10 y.a y.x.puts := fun y hy => rw_grown (P9 y hy) hg10 (fun h0 q hq => by
    have h2 := rw_lt (P9 y hy) h0 q hq
    rcases hl11 with h | ⟨_, _, h⟩
    · omega
    · exact (HCt.out.sd _ h).2.2.2 y (hMm y hy) q hq)
  obtain ⟨_, _, ed, E10, _, md, Md⟩ := hc10.form sdnT
  injection ed with ed ed2 ed3
  rw [List.length_append, List.length_singleton] at md
  rw [← ed3] at md Md
  clear ed2 ed3
  subst ed
  have k10 : KB w10 x sK := k9.grownK hg10 (by rcases hl11 with h | ⟨_, h, _⟩ <;> omega)
  have ff : ∀ i v, w9.cell? ⟨x, i, none⟩ = some v → w10.cell? ⟨x, i, none⟩ = some v := fun i v e => (World.cell?_of_block (a := ⟨x, i, none⟩) (hg10.block x k9.lt (by simp; rcases hl11 with h | ⟨_, h, _⟩ <;> omega))).trans e
  have hm10 : ShM w10 ⟨R1, L2, s.opn.filter (fun y => !decide (y.t = (⟨ta, ti⟩ : Tx))), s.done ++ [⟨⟨ta, ti⟩, true⟩], V1⟩ ⟨aR, dR, ah, dh, A.oa, A.oc, M2, a9, d9⟩ := by
    refine ⟨r10, h10, hMx, O10, P10, E10, ⟨HCR.out, ⟨hd8, hm8⟩, ?_, ⟨by rw [List.length_append, List.length_singleton]; exact md, Md⟩, fun y hy => HCt.out.m.cp.p y (hMm y hy)⟩⟩
    have h1 := HCt.out.m.cp.o
    have h2 := List.length_filter_le (fun y : Sop => !decide (y.t = (⟨ta, ti⟩ : Tx))) s.opn
    simp only at h1 ⊢
    exact ⟨by omega, h1.2⟩
  obtain ⟨w11, hw11⟩ : ∃ V, w10.setCell ⟨x, 3, none⟩ (.slice a9 (s.done.length + 1) d9) = V := ⟨_, rfl⟩
  have hg11 : w10.grownBy w11 (some x) := hw11 ▸ sc_one _ _ _ _
  have hbs11 : BS w11 x ⟨R1, L2, s.opn.filter (fun y => !decide (y.t = (⟨ta, ti⟩ : Tx))), s.done ++ [⟨⟨ta, ti⟩, true⟩], V1⟩ ⟨aR, dR, ah, dh, A.oa, A.oc, M2, a9, d9⟩ := by
    refine ⟨?_, ?_, ?_, ?_, ?_, ?_⟩
    · rw [← hw11]; exact k10.set rfl
    · rw [← hw11]; simp [go_sem, ff _ _ c9_0]
    · rw [← hw11]; simp [go_sem, ff _ _ c9_1]
    · rw [← hw11, ← hML]; simp [go_sem, ff _ _ c9_2]
    · rw [← hw11, List.length_append, List.length_singleton]; simp [go_sem, ff _ _ c9_3]
    · rw [← hw11]; simp [go_sem, ff _ _ c9_4]
  have hO11 := (hO9.grown hg10 (by rcases hl11 with h | ⟨_, h, _⟩ <;> omega)).grown hg11 (by omega)
  have hR11 := (hR9.grown hg10 (by rcases hl11 with h | ⟨h, _⟩ <;> omega) (by rcases hl11 with h | ⟨_, h, _⟩ <;> omega) (by rcases hl11 with h | ⟨_, h, _⟩ <;> omega)).grown hg11 hBx (by omega) (by omega)
  have hm11 : ShM w11 ⟨R1, L2, s.opn.filter (fun y => !decide (y.t = (⟨ta, ti⟩ : Tx))), s.done ++ [⟨⟨ta, ti⟩, true⟩], V1⟩ ⟨aR, dR, ah, dh, A.oa, A.oc, M2, a9, d9⟩ := hw11 ▸ hm10.set k10 fits_s 3 _
  have hEE : r = (⟨R1, L2, s.opn.filter (fun y => !decide (y.t = (⟨ta, ti⟩ : Tx))), s.done ++ [⟨⟨ta, ti⟩, true⟩], V1⟩, ansC 0 true) := by rw [HEt.out]; unfold relS; simp only [hL2]
  obtain ⟨s9, hs9⟩ : ∃ z : Sh, (⟨R1, L2, s.opn.filter (fun y => !decide (y.t = (⟨ta, ti⟩ : Tx))), s.done ++ [⟨⟨ta, ti⟩, true⟩], V1⟩ : Sh) = z := ⟨_, rfl⟩
  obtain ⟨A9, hA9⟩ : ∃ z : Sad, (⟨aR, dR, ah, dh, A.oa, A.oc, M2, a9, d9⟩ : Sad) = z := ⟨_, rfl⟩
  rw [hs9] at hEE
  rw [hs9, hA9] at hm11 hbs11
  have HE9 := Lib.hid hEE
  have HP11 := Lib.hid (show PB x s9 A9 ⟨kd, ⟨ta, ti⟩, key, P, true⟩ a c u w11 from ⟨hbs11, hO11, hm11⟩)
  have HR11 := Lib.hid hR11
  have HW9 := Lib.hid hw9
  have HW11 := Lib.hid hw11
  have HR10 := Lib.hid hr10
  obtain ⟨z0, e0⟩ := hbs8.kb.so 0 (by decide)
  obtain ⟨z1, e1⟩ := hbs8.kb.so 1 (by decide)
  obtain ⟨z2, e2⟩ := hbs8.kb.so 2 (by decide)
  obtain ⟨z3, e3⟩ := hbs8.kb.so 3 (by decide)
  obtain ⟨z4, e4⟩ := hbs8.kb.so 4 (by decide)
  have f8 := hbs8.kb.fz
  have f10 := k10.fz
  have d10 := ff _ _ c9_3
  obtain ⟨_, q0, q1, q2, q3, q4, q5, q6⟩ := hO9
  simp only at q0 q1 q2 q3 q4 q5
  clear HRL hL2 hM2 hH8 hl8 hd8 hm8 hC8 hG8 hMx hML hMm hgg hBg hgx n1 n2 n3 n4 hzt hz8 hBx hxg hbs8 hO8 hR8 r8 D8 P8 hw9 hg9 hloA hloD r9 h9 C9 D9 P9 k9 c9_0 c9_1 c9_2 c9_4 hR9 hr10 hc10 hg10 hl10 hz9 hl11 r10 h10 O9 mo O10 P10 E10 md Md k10 ff hm10 hw11 hg11 hbs11 hO11 hR11 hm11 hEE hs9 hA9 eo3
  go_upto_region 16 with (fail)
  have hW9 := HW9.out
  simp only [set5s] at hW9
  rw [hW9]
  clear hW9
  clear e0 e1 e2 e3 e4 f8
  go_upto_region 17 with (at_builtin; refine Lib.wpList_append_run _ rfl _ _ 25 25 rfl _ (.slice (some ⟨w9.heap.size, 0, none⟩) 1 1) rfl rfl _ _ HR10.out ?_)
  rw [HW11.out]
  clear f10 d10 q0 q1 q2 q3 q4 q5 q6 c9_3
  refine tillK_begin (S := PB x s9 A9 ⟨kd, ⟨ta, ti⟩, key, P, true⟩ a c u) (k := 5) (by kernel_rfl) ?_
  have S0 : PB x s9 A9 ⟨kd, ⟨ta, ti⟩, key, P, true⟩ a c u w11.drew := HP11.out.later (Below.refl _ _).drew
  have HRe := Lib.hid (HR11.out.later HR11.out.size (Below.refl _ _).drew)
  have HFI := Lib.hid (OrB.mk' (r := (s9, ansC 0 true)) HR11.out HP11.out.m)
  have HX4 := Lib.hid (fun v0 v1 v2 v3 v4 (e : sK = [kdV v0, kdV v1, kdV v2, kdV v3, kdV v4]) => S0.set4 HRe.out.s (by omega) v0 v1 v2 v3 v4 e)
  refine tillK_take (i := 0) (v := .agg #[.slice A9.ra s9.rows.length A9.rc, .slice A9.ha s9.holds.length A9.hc, .slice A9.oa s9.opn.length A9.oc, .slice A9.da s9.done.length A9.dc, .int .u64 (s9.ver : Nat)]) rfl (by kernel_rfl) (by kernel_rfl) (by kernel_rfl) (by kernel_rfl) (by kernel_rfl) (by kernel_rfl) (fun _ _ _ h => h) (Or.inl ⟨by rfl, ?hyl_0⟩) (by assumption) ?restl_0
  case hyl_0 =>
    rintro w' ⟨hb, ho, hm⟩
    obtain ⟨_, c0, c1, c2, c3, c4⟩ := hb
    obtain ⟨_, q0, q1, q2, q3, q4, q5, q6⟩ := ho
    simp only at q0 q1 q2 q3 q4 q5
    go_simp
  try simp only [Act.put, List.setIfInBounds_toArray]
  refine tillK_take (i := 1) (v := .pointer (some ⟨x + 1, 5, none⟩)) rfl (by kernel_rfl) (by kernel_rfl) (by kernel_rfl) (by kernel_rfl) (by kernel_rfl) (by kernel_rfl) (fun _ _ _ h => h) (Or.inl ⟨by rfl, ?hyl_1⟩) (by assumption) ?restl_1
  case hyl_1 =>
    rintro w' ⟨hb, ho, hm⟩
    obtain ⟨_, c0, c1, c2, c3, c4⟩ := hb
    obtain ⟨_, q0, q1, q2, q3, q4, q5, q6⟩ := ho
    simp only at q0 q1 q2 q3 q4 q5
    go_simp
  try simp only [Act.put]
  refine tillK_take (i := 2) (v := .bool true) rfl (by kernel_rfl) (by kernel_rfl) (by kernel_rfl) (by kernel_rfl) (by kernel_rfl) (by kernel_rfl) (fun _ _ _ h => h) (Or.inl ⟨by rfl, ?hyl_2⟩) (by assumption) ?restl_2
  case hyl_2 =>
    rintro w' ⟨hb, ho, hm⟩
    obtain ⟨_, c0, c1, c2, c3, c4⟩ := hb
    obtain ⟨_, q0, q1, q2, q3, q4, q5, q6⟩ := ho
    simp only at q0 q1 q2 q3 q4 q5
    go_simp
  try simp only [Act.put]
  refine tillK_take (i := 3) (v := .agg #[.int .i64 0, .string ⟨#[]⟩, .int .u64 0, .bool false, .bool true]) rfl (by kernel_rfl) (by kernel_rfl) (by kernel_rfl) (by kernel_rfl) (by kernel_rfl) (by kernel_rfl) (fun _ _ _ h => h) (Or.inl ⟨by rfl, ?hyl_3⟩) (by assumption) ?restl_3
  case hyl_3 =>
    rintro w' ⟨hb, ho, hm⟩
    obtain ⟨_, c0, c1, c2, c3, c4⟩ := hb
    obtain ⟨_, q0, q1, q2, q3, q4, q5, q6⟩ := ho
    simp only at q0 q1 q2 q3 q4 q5
    go_simp
  try simp only [Act.put]
  obtain ⟨u0, e0⟩ := HR11.out.s.so 0 (by decide)
  obtain ⟨u1, e1⟩ := HR11.out.s.so 1 (by decide)
  obtain ⟨u2, e2⟩ := HR11.out.s.so 2 (by decide)
  obtain ⟨u3, e3⟩ := HR11.out.s.so 3 (by decide)
  obtain ⟨u4, e4⟩ := HR11.out.s.so 4 (by decide)
  obtain ⟨v0, g0⟩ := HR11.out.a.so 0 (by decide)
  obtain ⟨v1, g1⟩ := HR11.out.a.so 1 (by decide)
  obtain ⟨v2, g2⟩ := HR11.out.a.so 2 (by decide)
  obtain ⟨v3, g3⟩ := HR11.out.a.so 3 (by decide)
  obtain ⟨v4, g4⟩ := HR11.out.a.so 4 (by decide)
  have f4 := HR11.out.s.fz
  have f5 := HR11.out.a.fz
  refine tillK_step (i := 4) (by kernel_rfl) rfl (by rfl) ?_
  intro Kl_4 hKl_4
  have HKl_4 := Lib.hid hKl_4
  clear hKl_4
  go_wp2_with fail
  refine HKl_4.out.out _ _ (fun _ => HX4.out _ _ _ _ _ rfl) ?_
  refine tillK_step (i := 5) (by kernel_rfl) rfl (by rfl) ?_
  intro Kl_5 hKl_5
  have HKl_5 := Lib.hid hKl_5
  clear hKl_5
  go_wp2_with fail
  refine HKl_5.out.out _ _ (fun h => by simp at h) ?_
  refine tillK_done (by kernel_rfl) ?_
  clear S0
  go_wp2_with fail
  refine bodyPost_ret (v := .tuple #[shV s9 A9, ansV (ansC 0 true)]) (by simp [results, Try.results21, go_sem, e0, e1, e2, e3, e4, g0, g1, g2, g3, g4, ansC]) rfl ?_
  rw [HE9.out]
  exact (HFI.out _ rfl).drew
end Go.Proofs.Ythgnecggdlamfaa
