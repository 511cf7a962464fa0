/- What the document's ways of an order need beside the program's. -/
import Derived.Test.YthgnecggdlamfaaTq
import Derived.Test.YthgnecggdlamfaaEh
import Derived.Test.YthgnecggdlamfaaTg
import Derived.Test.YthgnecggdlamfaaVf
import Derived.Deep.QuietTactic
import Derived.BigQuiet
import Derived.Test.YthgnecggdlamfaaTu
import Derived.Test.YthgnecggdlamfaaUd
namespace Go.Proofs.Ythgnecggdlamfaa
open Go.RowKit

/-- What a cell of a box holds. -/
def cv (w : World) (x i : Nat) : Value := (w.cell? ⟨x, i, none⟩).getD undef
theorem KB.cv {w : World} {x : Nat} {ks : List Nat} (h : KB w x ks) (i : Nat) (hi : i < ks.length) : w.cell? ⟨x, i, none⟩ = some (cv w x i) := by
  obtain ⟨u, e⟩ := h.so i hi
  simp [Go.Proofs.Ythgnecggdlamfaa.cv, e]
/-- The open ones of other transactions. -/
def mfO (t : Tx) (M : List SopM) : List SopM := M.filter fun y => !decide (y.x.t = t)
theorem mfO_at {t : Tx} {M : List SopM} {k : Nat} {y : SopM} (hy : M[k]? = some y) : mfO t (M.take (k + 1)) = mfO t (M.take k) ++ if y.x.t = t then [] else [y] := by
  rw [takeP_snoc hy]; unfold mfO
  rw [List.filter_append]
  by_cases h : y.x.t = t <;> simp [h]
theorem mfO_len (t : Tx) (M : List SopM) : (mfO t M).length ≤ M.length := List.length_filter_le _ _
theorem mfO_mem {t : Tx} {M : List SopM} {y : SopM} (h : y ∈ mfO t M) : y ∈ M := (List.mem_filter.1 h).1
theorem mfO_x (t : Tx) (M : List SopM) : (mfO t M).map (fun y => y.x) = (M.map fun y => y.x).filter fun y => !decide (y.t = t) := by
  unfold mfO; rw [List.filter_map]; rfl
end Go.Proofs.Ythgnecggdlamfaa
/- The document's finishes: one that is over. -/
namespace Go.Proofs.Ythgnecggdlamfaa
open Go.RowKit

set_option maxRecDepth 100000 in
set_option maxHeartbeats 8000000 in
theorem finOver_any (B : Nat) (s : Sh) (A : Sad) (o : Odr) (a : Option Addr) (c : Nat) (q : Option Addr) (qn qc : Nat) (w : World) (hM : ShM w s A) (hB : B ≤ w.heap.size) (zs : SzS s) (zo : SzO o) (hov : ∃ j y, oixS o.t 0 s.done = some j ∧ s.done[j]? = some y ∧ ovrS o.t s.done = some y.cm) :
    Calls Try.prog 24 #[shV s A, odrV o a c (.slice q qn qc)] w (OrB B w (finS s o)) := by
  obtain ⟨u, hu⟩ : ∃ u, Value.slice q qn qc = u := ⟨_, rfl⟩
  rw [hu]
  clear hu
  obtain ⟨W, hW⟩ : ∃ W, doW w s A o a c u = W := ⟨_, rfl⟩
  obtain ⟨x, hx⟩ : ∃ x, w.heap.size = x := ⟨_, rfl⟩
  obtain ⟨hS, hO, hR, hBW, hsz⟩ := four hW hx
  have hol : s.opn.length ≤ 140737488351232 := by have := zs.olen; omega
  have hdl : s.done.length ≤ 140737488351232 := by have := zs.dlen; omega
  have HP := Lib.hid (show PB x s A o a c u W from ⟨hS, hO, hM.later hBW⟩)
  have HR := Lib.hid (show RsC B w W (x + 1 + 1) (x + 1 + 1 + 1) from ⟨hR.s, hR.a, Nat.le_trans hB hR.l4, hR.l5, hR.b.mono hB⟩)
  have HBX := Lib.hid (show B ≤ x from hx ▸ hB)
  have HDA := Lib.hid (fun w' (h : Below W.heap.size W w') => rOver_any s A o.t hdl w' ((hM.later hBW).later h))
  have HOA := Lib.hid (fun w' (h : Below W.heap.size W w') => rKnown_any s A o.t hol w' ((hM.later hBW).later h))
  have HZ := Lib.hid zs
  have HZO := Lib.hid zo
  have HW := Lib.hid hW
  have HX := Lib.hid hx
  have HSZ := Lib.hid hsz
  obtain ⟨kd, ⟨ta, ti⟩, key, P, cm⟩ := o
  obtain ⟨r, hr⟩ : ∃ r, finS s ⟨kd, ⟨ta, ti⟩, key, P, cm⟩ = r := ⟨_, rfl⟩
  rw [hr]
  have HRR := Lib.hid hr
  obtain ⟨_, q0, q1, q2, q3, q4, q5, q6⟩ := hO
  obtain ⟨_, c0, c1, c2, c3, c4⟩ := hS
  simp only at q0 q1 q2 q3 q4 q5 HDA HOA
  simp only at hov
  clear hM hB zs zo hR hBW hsz hW hx hr
  go_enter Try.func24, Try.ntmps24
  go_wp2_with fail
  have hWX := HW.out
  simp only [doW] at hWX
  rw [hWX, HX.out]
  clear hWX
  go_wp2_with fail
  refine (HDA.out W (Below.refl _ _)).mono ?_
  rintro e w1 ⟨rfl, hb1⟩
  have HB1 := Lib.hid hb1
  have HP1 := Lib.hid (HP.out.later hb1)
  have HR1 := Lib.hid (HR.out.later HR.out.size hb1)
  clear hb1 c0 c1 c2 c3 c4 q0 q1 q2 q3 q4 q5 q6
  obtain ⟨_, c0, c1, c2, c3, c4⟩ := HP1.out.bs
  obtain ⟨_, q0, q1, q2, q3, q4, q5, q6⟩ := HP1.out.ob
  simp only at q0 q1 q2 q3 q4 q5
  go_wp2_with fail
  refine (HOA.out w1 HB1.out).mono ?_
  rintro e w2 ⟨rfl, hb2⟩
  have HB2 := Lib.hid (HB1.out.trans (hb2.mono HB1.out.size))
  have HP2 := Lib.hid (HP1.out.later hb2)
  have HR2 := Lib.hid (HR1.out.later HR1.out.size hb2)
  clear hb2 c0 c1 c2 c3 c4 q0 q1 q2 q3 q4 q5 q6
  obtain ⟨j, y, h3, hx, h5⟩ := hov
  rw [h3]
  obtain ⟨kk, hkk⟩ : ∃ k, kixS ⟨ta, ti⟩ 0 s.opn = k := ⟨_, rfl⟩
  rw [hkk]
  have hr1 := HRR.out.symm.trans (fin_over h5)
  have hjl := (List.getElem?_eq_some_iff.1 hx).1
  obtain ⟨b, off, hda, _, p0, p1, p2⟩ := Sdn.cells HP2.out.m.done hx
  have i0 : (0 : Int) ≤ (j : Int) := by omega
  have i1 : (j : Int) < (s.done.length : Int) := by omega
  have gI : ixI (some j) = (j : Int) := rfl
  rw [gI]
  obtain ⟨⟨xa, xi⟩, xc⟩ := y
  clear gI h3 h5 hjl hkk
  obtain ⟨_, c0, c1, c2, c3, c4⟩ := HP2.out.bs
  obtain ⟨_, q0, q1, q2, q3, q4, q5, q6⟩ := HP2.out.ob
  simp only at q0 q1 q2 q3 q4 q5
  rw [hda] at c3
  simp only at p0 p1 p2 hr1
  by_cases hxc : xc = cm
  · subst hxc
    rw [if_pos rfl] at hr1
    have g1 : (xc == xc) = true := by simp
    have g2 : (xc != xc) = false := by simp
    have HE := Lib.hid hr1
    go_upto_region 5 with (fail)
    go_quiet (fail)
    obtain ⟨wd, hwd⟩ : ∃ V, V = w2.drewN nq := ⟨_, rfl⟩
    rw [← hwd]
    have hbd : Below w2.heap.size w2 wd := hwd ▸ below_drewN (Below.refl _ _) _
    have HPd := Lib.hid (HP2.out.later hbd)
    have HRd := Lib.hid (HR2.out.later HR2.out.size hbd)
    clear hwd hbd c0 c1 c2 c3 c4 q0 q1 q2 q3 q4 q5 q6 p0 p1 p2 g1 g2 hr1
    go_upto_region 7 with (fail)
    refine tillK_begin (S := PB x s A ⟨kd, ⟨ta, ti⟩, key, P, xc⟩ a c u) (k := 10) (by kernel_rfl) ?_
    have S0 : PB x s A ⟨kd, ⟨ta, ti⟩, key, P, xc⟩ a c u wd.drew := HPd.out.later (Below.refl _ _).drew
    have HRe := Lib.hid (HRd.out.later HRd.out.size (Below.refl _ _).drew)
    have HFI := Lib.hid (OrB.mk' (r := (s, ansC 0 xc)) HRd.out HPd.out.m)
    have HX4 := Lib.hid (fun v0 v1 v2 v3 v4 (e : sK = [kdV v0, kdV v1, kdV v2, kdV v3, kdV v4]) => (HPd.out.set4 HRd.out.s (by omega) v0 v1 v2 v3 v4 e).later (Below.refl _ _).drew)
    refine tillK_take (i := 0) (v := .agg #[.slice A.ra s.rows.length A.rc, .slice A.ha s.holds.length A.hc, .slice A.oa s.opn.length A.oc, .slice (some ⟨b, off, none⟩) s.done.length A.dc, .int .u64 (s.ver : Nat)]) rfl (by kernel_rfl) (by kernel_rfl) (by kernel_rfl) (by kernel_rfl) (by kernel_rfl) (by kernel_rfl) (fun _ _ _ h => h) (Or.inl ⟨by rfl, ?hya_0⟩) (by assumption) ?resta_0
    case hya_0 =>
      rintro w' ⟨hb, ho, hm⟩
      obtain ⟨_, c0, c1, c2, c3, c4⟩ := hb
      obtain ⟨_, q0, q1, q2, q3, q4, q5, q6⟩ := ho
      rw [hda] at c3
      simp only at q0 q1 q2 q3 q4 q5
      go_simp
    try simp only [Act.put, List.setIfInBounds_toArray]
    refine tillK_take (i := 1) (v := .int .i64 0) rfl (by kernel_rfl) (by kernel_rfl) (by kernel_rfl) (by kernel_rfl) (by kernel_rfl) (by kernel_rfl) (fun _ _ _ h => h) (Or.inl ⟨by rfl, ?hya_1⟩) (by assumption) ?resta_1
    case hya_1 =>
      rintro w' ⟨hb, ho, hm⟩
      obtain ⟨_, c0, c1, c2, c3, c4⟩ := hb
      obtain ⟨_, q0, q1, q2, q3, q4, q5, q6⟩ := ho
      rw [hda] at c3
      simp only at q0 q1 q2 q3 q4 q5
      go_simp
    try simp only [Act.put]
    refine tillK_take (i := 2) (v := .pointer (some ⟨x, 3, none⟩)) rfl (by kernel_rfl) (by kernel_rfl) (by kernel_rfl) (by kernel_rfl) (by kernel_rfl) (by kernel_rfl) (fun _ _ _ h => h) (Or.inl ⟨by rfl, ?hya_2⟩) (by assumption) ?resta_2
    case hya_2 =>
      rintro w' ⟨hb, ho, hm⟩
      obtain ⟨_, c0, c1, c2, c3, c4⟩ := hb
      obtain ⟨_, q0, q1, q2, q3, q4, q5, q6⟩ := ho
      rw [hda] at c3
      simp only at q0 q1 q2 q3 q4 q5
      go_simp
    try simp only [Act.put]
    refine tillK_take (i := 3) (v := .slice (some ⟨b, off, none⟩) s.done.length A.dc) rfl (by kernel_rfl) (by kernel_rfl) (by kernel_rfl) (by kernel_rfl) (by kernel_rfl) (by kernel_rfl) (fun _ _ _ h => h) (Or.inl ⟨by rfl, ?hya_3⟩) (by assumption) ?resta_3
    case hya_3 =>
      rintro w' ⟨hb, ho, hm⟩
      obtain ⟨_, c0, c1, c2, c3, c4⟩ := hb
      obtain ⟨_, q0, q1, q2, q3, q4, q5, q6⟩ := ho
      rw [hda] at c3
      simp only at q0 q1 q2 q3 q4 q5
      go_simp
    try simp only [Act.put]
    refine tillK_take (i := 4) (v := .int .i64 j) rfl (by kernel_rfl) (by kernel_rfl) (by kernel_rfl) (by kernel_rfl) (by kernel_rfl) (by kernel_rfl) (fun _ _ _ h => h) (Or.inl ⟨by rfl, ?hya_4⟩) (by assumption) ?resta_4
    case hya_4 =>
      rintro w' ⟨hb, ho, hm⟩
      obtain ⟨_, c0, c1, c2, c3, c4⟩ := hb
      obtain ⟨_, q0, q1, q2, q3, q4, q5, q6⟩ := ho
      rw [hda] at c3
      simp only at q0 q1 q2 q3 q4 q5
      go_simp
    try simp only [Act.put]
    refine tillK_take (i := 5) (v := .pointer (some ⟨b, off + j * 3, none⟩)) rfl (by kernel_rfl) (by kernel_rfl) (by kernel_rfl) (by kernel_rfl) (by kernel_rfl) (by kernel_rfl) (fun _ _ _ h => h) (Or.inl ⟨by rfl, ?hya_5⟩) (by assumption) ?resta_5
    case hya_5 =>
      rintro w' ⟨hb, ho, hm⟩
      obtain ⟨_, c0, c1, c2, c3, c4⟩ := hb
      obtain ⟨_, q0, q1, q2, q3, q4, q5, q6⟩ := ho
      rw [hda] at c3
      simp only at q0 q1 q2 q3 q4 q5
      go_simp
    try simp only [Act.put]
    refine tillK_take (i := 6) (v := .pointer (some ⟨b, off + j * 3 + 2, none⟩)) rfl (by kernel_rfl) (by kernel_rfl) (by kernel_rfl) (by kernel_rfl) (by kernel_rfl) (by kernel_rfl) (fun _ _ _ h => h) (Or.inl ⟨by rfl, ?hya_6⟩) (by assumption) ?resta_6
    case hya_6 =>
      rintro w' ⟨hb, ho, hm⟩
      obtain ⟨_, c0, c1, c2, c3, c4⟩ := hb
      obtain ⟨_, q0, q1, q2, q3, q4, q5, q6⟩ := ho
      rw [hda] at c3
      simp only at q0 q1 q2 q3 q4 q5
      go_simp
    try simp only [Act.put]
    refine tillK_take (i := 7) (v := .bool xc) rfl (by kernel_rfl) (by kernel_rfl) (by kernel_rfl) (by kernel_rfl) (by kernel_rfl) (by kernel_rfl) (fun _ _ _ h => h) (Or.inl ⟨by rfl, ?hya_7⟩) (by assumption) ?resta_7
    case hya_7 =>
      rintro w' ⟨hb, ho, hm⟩
      obtain ⟨_, c0, c1, c2, c3, c4⟩ := hb
      obtain ⟨_, q0, q1, q2, q3, q4, q5, q6⟩ := ho
      rw [hda] at c3
      simp only at q0 q1 q2 q3 q4 q5
      obtain ⟨_, p0, p1, p2⟩ := dn_at hm hda hx
      simp only at p0 p1 p2
      clear hm
      go_simp
    try simp only [Act.put]
    refine tillK_take (i := 8) (v := .agg #[.int .i64 0, .string ⟨#[]⟩, .int .u64 0, .bool false, .bool xc]) rfl (by kernel_rfl) (by kernel_rfl) (by kernel_rfl) (by kernel_rfl) (by kernel_rfl) (by kernel_rfl) (fun _ _ _ h => h) (Or.inl ⟨by rfl, ?hya_8⟩) (by assumption) ?resta_8
    case hya_8 =>
      rintro w' ⟨hb, ho, hm⟩
      obtain ⟨_, c0, c1, c2, c3, c4⟩ := hb
      obtain ⟨_, q0, q1, q2, q3, q4, q5, q6⟩ := ho
      rw [hda] at c3
      simp only at q0 q1 q2 q3 q4 q5
      go_simp
    try simp only [Act.put]
    have e0 := HRd.out.s.cv 0 (by decide)
    have e1 := HRd.out.s.cv 1 (by decide)
    have e2 := HRd.out.s.cv 2 (by decide)
    have e3 := HRd.out.s.cv 3 (by decide)
    have e4 := HRd.out.s.cv 4 (by decide)
    have g0 := HRd.out.a.cv 0 (by decide)
    have g1 := HRd.out.a.cv 1 (by decide)
    have g2 := HRd.out.a.cv 2 (by decide)
    have g3 := HRd.out.a.cv 3 (by decide)
    have g4 := HRd.out.a.cv 4 (by decide)
    have f4 := HRd.out.s.fz
    have f5 := HRd.out.a.fz
    refine tillK_step (i := 9) (by kernel_rfl) rfl (by rfl) ?_
    intro Ka_9 hKa_9
    have HKa_9 := Lib.hid hKa_9
    clear hKa_9
    go_wp2_with fail
    refine HKa_9.out.out _ _ (fun _ => HX4.out _ _ _ _ _ rfl) ?_
    refine tillK_step (i := 10) (by kernel_rfl) rfl (by rfl) ?_
    intro Ka_10 hKa_10
    have HKa_10 := Lib.hid hKa_10
    clear hKa_10
    go_wp2_with fail
    refine HKa_10.out.out _ _ (fun h => by simp at h) ?_
    refine tillK_done (by kernel_rfl) ?_
    clear S0
    rw [hda] at HFI
    go_wp2_with fail
    refine bodyPost_ret (v := .tuple #[shV s A, ansV (ansC 0 xc)]) (by simp [results, Try.results24, go_sem, e0, e1, e2, e3, e4, g0, g1, g2, g3, g4, ansC, hda]) rfl ?_
    rw [HE.out]
    exact (HFI.out _ rfl).drew
  · rw [if_neg hxc] at hr1
    have g1 : (xc == cm) = false := by simpa using hxc
    have g2 : (xc != cm) = true := by simpa using hxc
    have HE := Lib.hid hr1
    go_upto_region 5 with (fail)
    go_quiet (fail)
    obtain ⟨wd, hwd⟩ : ∃ V, V = w2.drewN nq := ⟨_, rfl⟩
    rw [← hwd]
    have hbd : Below w2.heap.size w2 wd := hwd ▸ below_drewN (Below.refl _ _) _
    have HPd := Lib.hid (HP2.out.later hbd)
    have HRd := Lib.hid (HR2.out.later HR2.out.size hbd)
    clear hwd hbd c0 c1 c2 c3 c4 q0 q1 q2 q3 q4 q5 q6 p0 p1 p2 g1 g2 hr1
    go_upto_region 7 with (fail)
    refine tillK_begin (S := PB x s A ⟨kd, ⟨ta, ti⟩, key, P, cm⟩ a c u) (k := 10) (by kernel_rfl) ?_
    have S0 : PB x s A ⟨kd, ⟨ta, ti⟩, key, P, cm⟩ a c u wd.drew := HPd.out.later (Below.refl _ _).drew
    have HRe := Lib.hid (HRd.out.later HRd.out.size (Below.refl _ _).drew)
    have HFI := Lib.hid (OrB.mk' (r := (s, ansC 13 xc)) HRd.out HPd.out.m)
    have HX4 := Lib.hid (fun v0 v1 v2 v3 v4 (e : sK = [kdV v0, kdV v1, kdV v2, kdV v3, kdV v4]) => (HPd.out.set4 HRd.out.s (by omega) v0 v1 v2 v3 v4 e).later (Below.refl _ _).drew)
    refine tillK_take (i := 0) (v := .agg #[.slice A.ra s.rows.length A.rc, .slice A.ha s.holds.length A.hc, .slice A.oa s.opn.length A.oc, .slice (some ⟨b, off, none⟩) s.done.length A.dc, .int .u64 (s.ver : Nat)]) rfl (by kernel_rfl) (by kernel_rfl) (by kernel_rfl) (by kernel_rfl) (by kernel_rfl) (by kernel_rfl) (fun _ _ _ h => h) (Or.inl ⟨by rfl, ?hyb_0⟩) (by assumption) ?restb_0
    case hyb_0 =>
      rintro w' ⟨hb, ho, hm⟩
      obtain ⟨_, c0, c1, c2, c3, c4⟩ := hb
      obtain ⟨_, q0, q1, q2, q3, q4, q5, q6⟩ := ho
      rw [hda] at c3
      simp only at q0 q1 q2 q3 q4 q5
      go_simp
    try simp only [Act.put, List.setIfInBounds_toArray]
    refine tillK_take (i := 1) (v := .int .i64 13) rfl (by kernel_rfl) (by kernel_rfl) (by kernel_rfl) (by kernel_rfl) (by kernel_rfl) (by kernel_rfl) (fun _ _ _ h => h) (Or.inl ⟨by rfl, ?hyb_1⟩) (by assumption) ?restb_1
    case hyb_1 =>
      rintro w' ⟨hb, ho, hm⟩
      obtain ⟨_, c0, c1, c2, c3, c4⟩ := hb
      obtain ⟨_, q0, q1, q2, q3, q4, q5, q6⟩ := ho
      rw [hda] at c3
      simp only at q0 q1 q2 q3 q4 q5
      go_simp
    try simp only [Act.put]
    refine tillK_take (i := 2) (v := .pointer (some ⟨x, 3, none⟩)) rfl (by kernel_rfl) (by kernel_rfl) (by kernel_rfl) (by kernel_rfl) (by kernel_rfl) (by kernel_rfl) (fun _ _ _ h => h) (Or.inl ⟨by rfl, ?hyb_2⟩) (by assumption) ?restb_2
    case hyb_2 =>
      rintro w' ⟨hb, ho, hm⟩
      obtain ⟨_, c0, c1, c2, c3, c4⟩ := hb
      obtain ⟨_, q0, q1, q2, q3, q4, q5, q6⟩ := ho
      rw [hda] at c3
      simp only at q0 q1 q2 q3 q4 q5
      go_simp
    try simp only [Act.put]
    refine tillK_take (i := 3) (v := .slice (some ⟨b, off, none⟩) s.done.length A.dc) rfl (by kernel_rfl) (by kernel_rfl) (by kernel_rfl) (by kernel_rfl) (by kernel_rfl) (by kernel_rfl) (fun _ _ _ h => h) (Or.inl ⟨by rfl, ?hyb_3⟩) (by assumption) ?restb_3
    case hyb_3 =>
      rintro w' ⟨hb, ho, hm⟩
      obtain ⟨_, c0, c1, c2, c3, c4⟩ := hb
      obtain ⟨_, q0, q1, q2, q3, q4, q5, q6⟩ := ho
      rw [hda] at c3
      simp only at q0 q1 q2 q3 q4 q5
      go_simp
    try simp only [Act.put]
    refine tillK_take (i := 4) (v := .int .i64 j) rfl (by kernel_rfl) (by kernel_rfl) (by kernel_rfl) (by kernel_rfl) (by kernel_rfl) (by kernel_rfl) (fun _ _ _ h => h) (Or.inl ⟨by rfl, ?hyb_4⟩) (by assumption) ?restb_4
    case hyb_4 =>
      rintro w' ⟨hb, ho, hm⟩
      obtain ⟨_, c0, c1, c2, c3, c4⟩ := hb
      obtain ⟨_, q0, q1, q2, q3, q4, q5, q6⟩ := ho
      rw [hda] at c3
      simp only at q0 q1 q2 q3 q4 q5
      go_simp
    try simp only [Act.put]
    refine tillK_take (i := 5) (v := .pointer (some ⟨b, off + j * 3, none⟩)) rfl (by kernel_rfl) (by kernel_rfl) (by kernel_rfl) (by kernel_rfl) (by kernel_rfl) (by kernel_rfl) (fun _ _ _ h => h) (Or.inl ⟨by rfl, ?hyb_5⟩) (by assumption) ?restb_5
    case hyb_5 =>
      rintro w' ⟨hb, ho, hm⟩
      obtain ⟨_, c0, c1, c2, c3, c4⟩ := hb
      obtain ⟨_, q0, q1, q2, q3, q4, q5, q6⟩ := ho
      rw [hda] at c3
      simp only at q0 q1 q2 q3 q4 q5
      go_simp
    try simp only [Act.put]
    refine tillK_take (i := 6) (v := .pointer (some ⟨b, off + j * 3 + 2, none⟩)) rfl (by kernel_rfl) (by kernel_rfl) (by kernel_rfl) (by kernel_rfl) (by kernel_rfl) (by kernel_rfl) (fun _ _ _ h => h) (Or.inl ⟨by rfl, ?hyb_6⟩) (by assumption) ?restb_6
    case hyb_6 =>
      rintro w' ⟨hb, ho, hm⟩
      obtain ⟨_, c0, c1, c2, c3, c4⟩ := hb
      obtain ⟨_, q0, q1, q2, q3, q4, q5, q6⟩ := ho
      rw [hda] at c3
      simp only at q0 q1 q2 q3 q4 q5
      go_simp
    try simp only [Act.put]
    refine tillK_take (i := 7) (v := .bool xc) rfl (by kernel_rfl) (by kernel_rfl) (by kernel_rfl) (by kernel_rfl) (by kernel_rfl) (by kernel_rfl) (fun _ _ _ h => h) (Or.inl ⟨by rfl, ?hyb_7⟩) (by assumption) ?restb_7
    case hyb_7 =>
      rintro w' ⟨hb, ho, hm⟩
      obtain ⟨_, c0, c1, c2, c3, c4⟩ := hb
      obtain ⟨_, q0, q1, q2, q3, q4, q5, q6⟩ := ho
      rw [hda] at c3
      simp only at q0 q1 q2 q3 q4 q5
      obtain ⟨_, p0, p1, p2⟩ := dn_at hm hda hx
      simp only at p0 p1 p2
      clear hm
      go_simp
    try simp only [Act.put]
    refine tillK_take (i := 8) (v := .agg #[.int .i64 13, .string ⟨#[]⟩, .int .u64 0, .bool false, .bool xc]) rfl (by kernel_rfl) (by kernel_rfl) (by kernel_rfl) (by kernel_rfl) (by kernel_rfl) (by kernel_rfl) (fun _ _ _ h => h) (Or.inl ⟨by rfl, ?hyb_8⟩) (by assumption) ?restb_8
    case hyb_8 =>
      rintro w' ⟨hb, ho, hm⟩
      obtain ⟨_, c0, c1, c2, c3, c4⟩ := hb
      obtain ⟨_, q0, q1, q2, q3, q4, q5, q6⟩ := ho
      rw [hda] at c3
      simp only at q0 q1 q2 q3 q4 q5
      go_simp
    try simp only [Act.put]
    have e0 := HRd.out.s.cv 0 (by decide)
    have e1 := HRd.out.s.cv 1 (by decide)
    have e2 := HRd.out.s.cv 2 (by decide)
    have e3 := HRd.out.s.cv 3 (by decide)
    have e4 := HRd.out.s.cv 4 (by decide)
    have g0 := HRd.out.a.cv 0 (by decide)
    have g1 := HRd.out.a.cv 1 (by decide)
    have g2 := HRd.out.a.cv 2 (by decide)
    have g3 := HRd.out.a.cv 3 (by decide)
    have g4 := HRd.out.a.cv 4 (by decide)
    have f4 := HRd.out.s.fz
    have f5 := HRd.out.a.fz
    refine tillK_step (i := 9) (by kernel_rfl) rfl (by rfl) ?_
    intro Kb_9 hKb_9
    have HKb_9 := Lib.hid hKb_9
    clear hKb_9
    go_wp2_with fail
    refine HKb_9.out.out _ _ (fun _ => HX4.out _ _ _ _ _ rfl) ?_
    refine tillK_step (i := 10) (by kernel_rfl) rfl (by rfl) ?_
    intro Kb_10 hKb_10
    have HKb_10 := Lib.hid hKb_10
    clear hKb_10
    go_wp2_with fail
    refine HKb_10.out.out _ _ (fun h => by simp at h) ?_
    refine tillK_done (by kernel_rfl) ?_
    clear S0
    rw [hda] at HFI
    go_wp2_with fail
    refine bodyPost_ret (v := .tuple #[shV s A, ansV (ansC 13 xc)]) (by simp [results, Try.results24, go_sem, e0, e1, e2, e3, e4, g0, g1, g2, g3, g4, ansC, hda]) rfl ?_
    rw [HE.out]
    exact (HFI.out _ rfl).drew
end Go.Proofs.Ythgnecggdlamfaa
/- The document's asks: one that is over. -/
namespace Go.Proofs.Ythgnecggdlamfaa
open Go.RowKit

theorem cell_drew {w : World} {p : Addr} {v : Value} (h : w.cell? p = some v) : w.drew.cell? p = some v := h
theorem cell_far5 {w : World} {x y i : Nat} {v v0 v1 v2 v3 v4 : Value} (h : w.cell? ⟨y, i, none⟩ = some v) (hne : x ≠ y) : (set5s w x v0 v1 v2 v3 v4).drew.cell? ⟨y, i, none⟩ = some v := by
  apply cell_drew
  rw [set5s, World.cell?_setCell_far _ _ _ _ hne, World.cell?_setCell_far _ _ _ _ hne, World.cell?_setCell_far _ _ _ _ hne, World.cell?_setCell_far _ _ _ _ hne, World.cell?_setCell_far _ _ _ _ hne]; exact h
set_option maxRecDepth 100000 in
set_option maxHeartbeats 8000000 in
theorem asksOver_any (B : Nat) (s : Sh) (A : Sad) (o : Odr) (a : Option Addr) (c : Nat) (q : Option Addr) (qn qc : Nat) (w : World) (hM : ShM w s A) (hB : B ≤ w.heap.size) (zs : SzS s) (zo : SzO o) (hov : ∃ j y, oixS o.t 0 s.done = some j ∧ s.done[j]? = some y ∧ ovrS o.t s.done = some y.cm) :
    Calls Try.prog 22 #[shV s A, odrV o a c (.slice q qn qc)] w (OrB B w (asksS s o)) := by
  obtain ⟨u, hu⟩ : ∃ u, Value.slice q qn qc = u := ⟨_, rfl⟩
  rw [hu]
  clear hu
  obtain ⟨W, hW⟩ : ∃ W, doW w s A o a c u = W := ⟨_, rfl⟩
  obtain ⟨x, hx⟩ : ∃ x, w.heap.size = x := ⟨_, rfl⟩
  obtain ⟨hS, hO, hR, hBW, hsz⟩ := four hW hx
  have hol : s.opn.length ≤ 140737488351232 := by have := zs.olen; omega
  have hdl : s.done.length ≤ 140737488351232 := by have := zs.dlen; omega
  have HP := Lib.hid (show PB x s A o a c u W from ⟨hS, hO, hM.later hBW⟩)
  have HR := Lib.hid (show RsC B w W (x + 1 + 1) (x + 1 + 1 + 1) from ⟨hR.s, hR.a, Nat.le_trans hB hR.l4, hR.l5, hR.b.mono hB⟩)
  have HBX := Lib.hid (show B ≤ x from hx ▸ hB)
  have HDA := Lib.hid (fun w' (h : Below W.heap.size W w') => rOver_any s A o.t hdl w' ((hM.later hBW).later h))
  have HOA := Lib.hid (fun w' (h : Below W.heap.size W w') => rKnown_any s A o.t hol w' ((hM.later hBW).later h))
  have HZ := Lib.hid zs
  have HZO := Lib.hid zo
  have HW := Lib.hid hW
  have HX := Lib.hid hx
  have HSZ := Lib.hid hsz
  obtain ⟨kd, ⟨ta, ti⟩, key, P, cm⟩ := o
  obtain ⟨r, hr⟩ : ∃ r, asksS s ⟨kd, ⟨ta, ti⟩, key, P, cm⟩ = r := ⟨_, rfl⟩
  rw [hr]
  have HRR := Lib.hid hr
  obtain ⟨_, q0, q1, q2, q3, q4, q5, q6⟩ := hO
  obtain ⟨_, c0, c1, c2, c3, c4⟩ := hS
  simp only at q0 q1 q2 q3 q4 q5 HDA HOA
  simp only at hov
  clear hM hB zs zo hR hBW hsz hW hx hr
  go_enter Try.func22, Try.ntmps22
  go_wp2_with fail
  have hWX := HW.out
  simp only [doW] at hWX
  rw [hWX, HX.out]
  clear hWX
  go_wp2_with fail
  refine (HDA.out W (Below.refl _ _)).mono ?_
  rintro e w1 ⟨rfl, hb1⟩
  have HB1 := Lib.hid hb1
  have HP1 := Lib.hid (HP.out.later hb1)
  have HR1 := Lib.hid (HR.out.later HR.out.size hb1)
  clear hb1 c0 c1 c2 c3 c4 q0 q1 q2 q3 q4 q5 q6
  obtain ⟨_, c0, c1, c2, c3, c4⟩ := HP1.out.bs
  obtain ⟨_, q0, q1, q2, q3, q4, q5, q6⟩ := HP1.out.ob
  simp only at q0 q1 q2 q3 q4 q5
  go_wp2_with fail
  refine (HOA.out w1 HB1.out).mono ?_
  rintro e w2 ⟨rfl, hb2⟩
  have HB2 := Lib.hid (HB1.out.trans (hb2.mono HB1.out.size))
  have HP2 := Lib.hid (HP1.out.later hb2)
  have HR2 := Lib.hid (HR1.out.later HR1.out.size hb2)
  clear hb2 c0 c1 c2 c3 c4 q0 q1 q2 q3 q4 q5 q6
  obtain ⟨j, y, h3, hx, h5⟩ := hov
  rw [h3]
  obtain ⟨kk, hkk⟩ : ∃ k, kixS ⟨ta, ti⟩ 0 s.opn = k := ⟨_, rfl⟩
  rw [hkk]
  have hr1 := HRR.out.symm.trans (asks_over h5)
  have hjl := (List.getElem?_eq_some_iff.1 hx).1
  obtain ⟨b, off, hda, _, p0, p1, p2⟩ := Sdn.cells HP2.out.m.done hx
  have i0 : (0 : Int) ≤ (j : Int) := by omega
  have i1 : (j : Int) < (s.done.length : Int) := by omega
  have gI : ixI (some j) = (j : Int) := rfl
  rw [gI]
  obtain ⟨⟨xa, xi⟩, xc⟩ := y
  clear gI h3 h5 hjl hkk
  have HE := Lib.hid hr1
  clear hr1 p0 p1 p2
  obtain ⟨_, c0, c1, c2, c3, c4⟩ := HP2.out.bs
  obtain ⟨_, q0, q1, q2, q3, q4, q5, q6⟩ := HP2.out.ob
  simp only at q0 q1 q2 q3 q4 q5
  rw [hda] at c3
  go_upto_region 4 with (fail)
  refine tillK_begin (S := PB x s A ⟨kd, ⟨ta, ti⟩, key, P, cm⟩ a c u) (k := 9) (by kernel_rfl) ?_
  have S0 : PB x s A ⟨kd, ⟨ta, ti⟩, key, P, cm⟩ a c u w2.drew := HP2.out.later (Below.refl _ _).drew
  have HRe := Lib.hid (HR2.out.later HR2.out.size (Below.refl _ _).drew)
  have HFI := Lib.hid (OrB.mk' (r := (s, ansC 13 xc)) HR2.out HP2.out.m)
  have HX4 := Lib.hid (fun v0 v1 v2 v3 v4 (e : sK = [kdV v0, kdV v1, kdV v2, kdV v3, kdV v4]) => (HP2.out.set4 HR2.out.s (by omega) v0 v1 v2 v3 v4 e).later (Below.refl _ _).drew)
  refine tillK_take (i := 0) (v := .agg #[.slice A.ra s.rows.length A.rc, .slice A.ha s.holds.length A.hc, .slice A.oa s.opn.length A.oc, .slice (some ⟨b, off, none⟩) s.done.length A.dc, .int .u64 (s.ver : Nat)]) rfl (by kernel_rfl) (by kernel_rfl) (by kernel_rfl) (by kernel_rfl) (by kernel_rfl) (by kernel_rfl) (fun _ _ _ h => h) (Or.inl ⟨by rfl, ?hya_0⟩) (by assumption) ?resta_0
  case hya_0 =>
    rintro w' ⟨hb, ho, hm⟩
    obtain ⟨_, c0, c1, c2, c3, c4⟩ := hb
    obtain ⟨_, q0, q1, q2, q3, q4, q5, q6⟩ := ho
    rw [hda] at c3
    simp only at q0 q1 q2 q3 q4 q5
    go_simp
  try simp only [Act.put, List.setIfInBounds_toArray]
  refine tillK_take (i := 1) (v := .pointer (some ⟨x, 3, none⟩)) rfl (by kernel_rfl) (by kernel_rfl) (by kernel_rfl) (by kernel_rfl) (by kernel_rfl) (by kernel_rfl) (fun _ _ _ h => h) (Or.inl ⟨by rfl, ?hya_1⟩) (by assumption) ?resta_1
  case hya_1 =>
    rintro w' ⟨hb, ho, hm⟩
    obtain ⟨_, c0, c1, c2, c3, c4⟩ := hb
    obtain ⟨_, q0, q1, q2, q3, q4, q5, q6⟩ := ho
    rw [hda] at c3
    simp only at q0 q1 q2 q3 q4 q5
    go_simp
  try simp only [Act.put]
  refine tillK_take (i := 2) (v := .slice (some ⟨b, off, none⟩) s.done.length A.dc) rfl (by kernel_rfl) (by kernel_rfl) (by kernel_rfl) (by kernel_rfl) (by kernel_rfl) (by kernel_rfl) (fun _ _ _ h => h) (Or.inl ⟨by rfl, ?hya_2⟩) (by assumption) ?resta_2
  case hya_2 =>
    rintro w' ⟨hb, ho, hm⟩
    obtain ⟨_, c0, c1, c2, c3, c4⟩ := hb
    obtain ⟨_, q0, q1, q2, q3, q4, q5, q6⟩ := ho
    rw [hda] at c3
    simp only at q0 q1 q2 q3 q4 q5
    go_simp
  try simp only [Act.put]
  refine tillK_take (i := 3) (v := .int .i64 j) rfl (by kernel_rfl) (by kernel_rfl) (by kernel_rfl) (by kernel_rfl) (by kernel_rfl) (by kernel_rfl) (fun _ _ _ h => h) (Or.inl ⟨by rfl, ?hya_3⟩) (by assumption) ?resta_3
  case hya_3 =>
    rintro w' ⟨hb, ho, hm⟩
    obtain ⟨_, c0, c1, c2, c3, c4⟩ := hb
    obtain ⟨_, q0, q1, q2, q3, q4, q5, q6⟩ := ho
    rw [hda] at c3
    simp only at q0 q1 q2 q3 q4 q5
    go_simp
  try simp only [Act.put]
  refine tillK_take (i := 4) (v := .pointer (some ⟨b, off + j * 3, none⟩)) rfl (by kernel_rfl) (by kernel_rfl) (by kernel_rfl) (by kernel_rfl) (by kernel_rfl) (by kernel_rfl) (fun _ _ _ h => h) (Or.inl ⟨by rfl, ?hya_4⟩) (by assumption) ?resta_4
  case hya_4 =>
    rintro w' ⟨hb, ho, hm⟩
    obtain ⟨_, c0, c1, c2, c3, c4⟩ := hb
    obtain ⟨_, q0, q1, q2, q3, q4, q5, q6⟩ := ho
    rw [hda] at c3
    simp only at q0 q1 q2 q3 q4 q5
    go_simp
  try simp only [Act.put]
  refine tillK_take (i := 5) (v := .pointer (some ⟨b, off + j * 3 + 2, none⟩)) rfl (by kernel_rfl) (by kernel_rfl) (by kernel_rfl) (by kernel_rfl) (by kernel_rfl) (by kernel_rfl) (fun _ _ _ h => h) (Or.inl ⟨by rfl, ?hya_5⟩) (by assumption) ?resta_5
  case hya_5 =>
    rintro w' ⟨hb, ho, hm⟩
    obtain ⟨_, c0, c1, c2, c3, c4⟩ := hb
    obtain ⟨_, q0, q1, q2, q3, q4, q5, q6⟩ := ho
    rw [hda] at c3
    simp only at q0 q1 q2 q3 q4 q5
    go_simp
  try simp only [Act.put]
  refine tillK_take (i := 6) (v := .bool xc) rfl (by kernel_rfl) (by kernel_rfl) (by kernel_rfl) (by kernel_rfl) (by kernel_rfl) (by kernel_rfl) (fun _ _ _ h => h) (Or.inl ⟨by rfl, ?hya_6⟩) (by assumption) ?resta_6
  case hya_6 =>
    rintro w' ⟨hb, ho, hm⟩
    obtain ⟨_, c0, c1, c2, c3, c4⟩ := hb
    obtain ⟨_, q0, q1, q2, q3, q4, q5, q6⟩ := ho
    rw [hda] at c3
    simp only at q0 q1 q2 q3 q4 q5
    obtain ⟨_, p0, p1, p2⟩ := dn_at hm hda hx
    simp only at p0 p1 p2
    clear hm
    go_simp
  try simp only [Act.put]
  refine tillK_take (i := 7) (v := .agg #[.int .i64 13, .string ⟨#[]⟩, .int .u64 0, .bool false, .bool xc]) rfl (by kernel_rfl) (by kernel_rfl) (by kernel_rfl) (by kernel_rfl) (by kernel_rfl) (by kernel_rfl) (fun _ _ _ h => h) (Or.inl ⟨by rfl, ?hya_7⟩) (by assumption) ?resta_7
  case hya_7 =>
    rintro w' ⟨hb, ho, hm⟩
    obtain ⟨_, c0, c1, c2, c3, c4⟩ := hb
    obtain ⟨_, q0, q1, q2, q3, q4, q5, q6⟩ := ho
    rw [hda] at c3
    simp only at q0 q1 q2 q3 q4 q5
    go_simp
  try simp only [Act.put]
  have e0 := HR2.out.s.cv 0 (by decide)
  have e1 := HR2.out.s.cv 1 (by decide)
  have e2 := HR2.out.s.cv 2 (by decide)
  have e3 := HR2.out.s.cv 3 (by decide)
  have e4 := HR2.out.s.cv 4 (by decide)
  have g0 := HR2.out.a.cv 0 (by decide)
  have g1 := HR2.out.a.cv 1 (by decide)
  have g2 := HR2.out.a.cv 2 (by decide)
  have g3 := HR2.out.a.cv 3 (by decide)
  have g4 := HR2.out.a.cv 4 (by decide)
  have f4 := HR2.out.s.fz
  have f5 := HR2.out.a.fz
  refine tillK_step (i := 8) (by kernel_rfl) rfl (by rfl) ?_
  intro Ka_8 hKa_8
  have HKa_8 := Lib.hid hKa_8
  clear hKa_8
  go_wp2_with fail
  refine HKa_8.out.out _ _ (fun _ => HX4.out _ _ _ _ _ rfl) ?_
  refine tillK_step (i := 9) (by kernel_rfl) rfl (by rfl) ?_
  intro Ka_9 hKa_9
  have HKa_9 := Lib.hid hKa_9
  clear hKa_9
  go_wp2_with fail
  refine HKa_9.out.out _ _ (fun h => by simp at h) ?_
  refine tillK_done (by kernel_rfl) ?_
  clear S0
  rw [hda] at HFI
  go_wp2_with fail
  refine bodyPost_ret (v := .tuple #[shV s A, ansV (ansC 13 xc)]) (by simp [results, Try.results22, go_sem, e0, e1, e2, e3, e4, g0, g1, g2, g3, g4, ansC, hda]) rfl ?_
  rw [HE.out]
  exact (HFI.out _ rfl).drew
end Go.Proofs.Ythgnecggdlamfaa
