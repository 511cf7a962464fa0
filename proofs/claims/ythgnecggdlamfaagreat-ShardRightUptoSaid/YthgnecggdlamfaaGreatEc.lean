/- Whether a shard is right: the program's. -/
import Derived.Test.YthgnecggdlamfaaGreatEb
import Derived.Test.YthgnecggdlamfaaGreatHb
import Derived.Test.YthgnecggdlamfaaGreatNk

namespace Go.Proofs.YthgnecggdlamfaaGreat
open Go.RowKit Go.Maps

theorem keepC {w w' : World} {x : Nat} {v0 v1 v2 v3 v4 : Value} (h : x < w.heap.size ∧ w.cell? ⟨x, 0, none⟩ = some v0 ∧ w.cell? ⟨x, 1, none⟩ = some v1 ∧ w.cell? ⟨x, 2, none⟩ = some v2 ∧ w.cell? ⟨x, 3, none⟩ = some v3 ∧ w.cell? ⟨x, 4, none⟩ = some v4) (hb : Below w.heap.size w w') :
    x < w'.heap.size ∧ w'.cell? ⟨x, 0, none⟩ = some v0 ∧ w'.cell? ⟨x, 1, none⟩ = some v1 ∧ w'.cell? ⟨x, 2, none⟩ = some v2 ∧ w'.cell? ⟨x, 3, none⟩ = some v3 ∧ w'.cell? ⟨x, 4, none⟩ = some v4 := by
  obtain ⟨hl, a0, a1, a2, a3, a4⟩ := h
  have f : ∀ j v, w.cell? ⟨x, j, none⟩ = some v → w'.cell? ⟨x, j, none⟩ = some v := fun j v e => (hb.cell (p := ⟨x, j, none⟩) hl).trans e
  exact ⟨Nat.lt_of_lt_of_le hl hb.size, f _ _ a0, f _ _ a1, f _ _ a2, f _ _ a3, f _ _ a4⟩
set_option maxRecDepth 100000 in
set_option maxHeartbeats 8000000 in
theorem pRightS_any (s : Sh) (A : Sad) (w : World) (hM : ShM w s A) (zs : SzS s) :
    Calls Tryz.prog 5 #[shV s A] w fun e w' => e = .returned (.bool (rightS s)) ∧ Below w.heap.size w w' := by
  obtain ⟨nr, hnr⟩ : ∃ n, s.rows.length = n := ⟨_, rfl⟩
  obtain ⟨nh, hnh⟩ : ∃ n, s.holds.length = n := ⟨_, rfl⟩
  obtain ⟨no, hno⟩ : ∃ n, s.opn.length = n := ⟨_, rfl⟩
  obtain ⟨nd, hnd⟩ : ∃ n, s.done.length = n := ⟨_, rfl⟩
  obtain ⟨W, hW⟩ : ∃ W, w.alloc (.cells #[.slice A.ra s.rows.length A.rc, .slice A.ha s.holds.length A.hc, .slice A.oa s.opn.length A.oc, .slice A.da s.done.length A.dc, .int .u64 (s.ver : Nat)] 28) = W := ⟨_, rfl⟩
  obtain ⟨x1, hx1⟩ : ∃ x, w.heap.size = x := ⟨_, rfl⟩
  have hX : Below w.heap.size w W ∧ (x1 < W.heap.size ∧ W.cell? ⟨x1, 0, none⟩ = some (.slice A.ra s.rows.length A.rc) ∧ W.cell? ⟨x1, 1, none⟩ = some (.slice A.ha s.holds.length A.hc) ∧ W.cell? ⟨x1, 2, none⟩ = some (.slice A.oa s.opn.length A.oc) ∧ W.cell? ⟨x1, 3, none⟩ = some (.slice A.da s.done.length A.dc) ∧ W.cell? ⟨x1, 4, none⟩ = some (.int .u64 (s.ver : Nat))) := by
    rw [← hW, ← hx1]
    exact ⟨by go_grown, by simp, by simp [go_sem], by simp [go_sem], by simp [go_sem], by simp [go_sem], by simp [go_sem]⟩
  obtain ⟨hB, hC⟩ := hX
  have z1 := zs.rlen
  have z2 := zs.hlen
  have z3 := zs.olen
  have z4 := zs.dlen
  have hPU : ∀ y ∈ A.om, y.x.puts.length ≤ 140737488351232 ∧ smlP y.x.puts := fun y hy => by
    have := zs.opn y.x (by rw [← hM.om]; exact List.mem_map.2 ⟨y, hy, rfl⟩)
    exact ⟨by omega, this.2.2⟩
  have hanyO : A.om.any (fun y => !roL s.holds y.x) = !s.opn.all (roB s) := by
    rw [← hM.om, List.all_map, List.not_all_eq_any_not]; rfl
  have RO := Lib.hid (pRight_any s.rows.length A.rc A.ra s.rows rfl (by omega) zs.rows W (hM.later hB).rows)
  have RH := Lib.hid (fun w' (h : Below W.heap.size W w') => pRightH_any s.holds.length A.hc A.ha s.holds rfl (by omega) zs.hold w' ((hM.later hB).later h).holds)
  have DI := Lib.hid (fun (hl : s.opn.length + s.done.length ≤ 64) w' (h : Below W.heap.size W w') => distinct_any s A w' ((hM.later hB).later h) hl (fun x hx => (zs.opn x hx).1) zs.done)
  have CO := Lib.hid (fun w' (h : Below W.heap.size W w') => containsO_any 12 #[.pointer (some ⟨x1, 0, none⟩)] (fun y => !roL s.holds y.x) s.opn.length A.oc A.oa A.om hM.olen (by omega) w' (right1_run _) (fun y hy w'' hb => right1_any y x1 s.holds.length A.hc A.ha s.holds rfl (by omega) zs.hold (hPU y hy).1 (hPU y hy).2 w'' (keepC (keepC hC h) hb).1 (keepC (keepC hC h) hb).2.2.1 (((hM.later hB).later h).later hb).holds ((((hM.later hB).later h).later hb).puts y hy)) ((hM.later hB).later h).opn)
  have CH := Lib.hid (fun w' (h : Below W.heap.size W w') => contains_any 14 #[.pointer (some ⟨x1, 0, none⟩)] (fun x => !A.om.any (liv x.t)) s.holds.length A.hc A.ha s.holds rfl (by omega) zs.hold w' (right2_run _) (fun x w'' _ hb => right2_any x x1 s.opn.length A.oc A.oa A.om hM.olen (by omega) w'' (keepC (keepC hC h) hb).1 (keepC (keepC hC h) hb).2.2.2.1 (((hM.later hB).later h).later hb).opn) ((hM.later hB).later h).holds)
  have CR := Lib.hid (fun w' (h : Below W.heap.size W w') => crowded_any s A 0 0 none [] rfl (by omega) (fun p hp => absurd hp (by simp)) zs (by have := zs.keys; omega) w' ((hM.later hB).later h) (Rw.nil _))
  rw [hanyO] at CO
  have hanyH : (dsF [] (txsS s) = true) → s.holds.any (fun x => !A.om.any (liv x.t)) = !s.holds.all fun h => (knoS h.t s.opn).any fun x => !x.wd := fun hd => by
    have hnd : (s.opn.map fun y => y.t).Nodup := by
      have := (dsF_nodup _ [] List.nodup_nil).1 hd
      rw [List.nil_append] at this
      exact (List.nodup_append.1 this).1
    have e : ∀ t : Tx, A.om.any (liv t) = (knoS t s.opn).any fun x => !x.wd := fun t => by
      rw [← liv_kno s.opn hnd, ← hM.om, List.any_map]; rfl
    rw [List.not_all_eq_any_not]
    simp only [e]
  have HAH := Lib.hid hanyH
  have HR := Lib.hid (rightS_prog s)
  obtain ⟨v, hv⟩ : ∃ v, rightS s = v := ⟨_, rfl⟩
  rw [hv] at HR ⊢
  obtain ⟨e1, he1⟩ : ∃ e, rightB s.rows = e := ⟨_, rfl⟩
  obtain ⟨e2, he2⟩ : ∃ e, rightH s.holds = e := ⟨_, rfl⟩
  obtain ⟨e3, he3⟩ : ∃ e, dsF [] (txsS s) = e := ⟨_, rfl⟩
  obtain ⟨e4, he4⟩ : ∃ e, s.opn.all (roB s) = e := ⟨_, rfl⟩
  obtain ⟨e5, he5⟩ : ∃ e, (s.holds.all fun h => (knoS h.t s.opn).any fun x => !x.wd) = e := ⟨_, rfl⟩
  obtain ⟨kn, hkn⟩ : ∃ e, keysN s [] = e := ⟨_, rfl⟩
  rw [he1] at RO HR
  rw [he2] at RH HR
  rw [he3] at DI HR HAH
  rw [he4] at CO HR
  rw [he5] at HR HAH
  rw [hkn] at CR HR
  obtain ⟨e6, he6⟩ : ∃ e, s.holds.any (fun x => !A.om.any (liv x.t)) = e := ⟨_, rfl⟩
  rw [he6] at CH HAH
  have HB := Lib.hid hB
  have HE := Lib.hid (fun w' (h : Below W.heap.size W w') => hB.trans (h.mono hB.size))
  show Calls Tryz.prog 5 #[.agg #[.slice A.ra s.rows.length A.rc, .slice A.ha s.holds.length A.hc, .slice A.oa s.opn.length A.oc, .slice A.da s.done.length A.dc, .int .u64 (s.ver : Nat)]] w _
  have HSV := Lib.hid (show shV s A = .agg #[.slice A.ra s.rows.length A.rc, .slice A.ha s.holds.length A.hc, .slice A.oa s.opn.length A.oc, .slice A.da s.done.length A.dc, .int .u64 (s.ver : Nat)] from rfl)
  rw [HSV.out] at DI CR
  rw [hnr, hnh, hno, hnd] at hC hW DI CR ⊢
  rw [hnr] at RO
  rw [hnh] at RH CH
  rw [hno] at CO HR
  rw [hnd] at HR
  rw [hno] at z3
  rw [hnd] at z4
  have HC := Lib.hid hC
  clear hv he1 he2 he3 he4 he5 he6 hkn hB hM zs z1 z2 hPU hanyO hanyH hnr hnh hno hnd HSV
  obtain ⟨hlt, c0, c1, c2, c3, c4⟩ := hC
  by_cases h64 : no + nd ≤ 64
  case neg =>
    obtain rfl : v = false := by rw [HR.out, decide_eq_false h64]; rfl
    go_enter Tryz.func5, Tryz.ntmps5
    go_wp2_with fail
    go_ret
    exact ⟨by first | rfl | simp, by first | exact HB.out | (rw [← hx1]; exact HB.out)⟩
  rw [decide_eq_true h64, Bool.true_and] at HR
  have DI2 := Lib.hid (DI.out h64)
  clear DI
  go_enter Tryz.func5, Tryz.ntmps5
  go_wp2_with fail
  refine RO.out.mono ?_
  rintro e w2 ⟨rfl, hb2⟩
  have HB2 := Lib.hid hb2
  have HC2 := Lib.hid (keepC HC.out hb2)
  clear hb2 hlt c0 c1 c2 c3 c4 hW
  obtain ⟨hlt, c0, c1, c2, c3, c4⟩ := HC2.out
  cases e1
  case false =>
    obtain rfl : v = false := by rw [HR.out]; rfl
    go_wp2_with fail
    go_ret
    exact ⟨by first | rfl | simp, by first | exact HE.out _ HB2.out | (rw [← hx1]; exact HE.out _ HB2.out)⟩
  go_wp2_with fail
  refine (RH.out w2 HB2.out).mono ?_
  rintro e w3 ⟨rfl, hb3⟩
  have HB3 := Lib.hid (HB2.out.trans (hb3.mono HB2.out.size))
  have HC3 := Lib.hid (keepC HC2.out hb3)
  clear hb3 hlt c0 c1 c2 c3 c4
  obtain ⟨hlt, c0, c1, c2, c3, c4⟩ := HC3.out
  cases e2
  case false =>
    obtain rfl : v = false := by rw [HR.out]; rfl
    go_wp2_with fail
    go_ret
    exact ⟨by first | rfl | simp, by first | exact HE.out _ HB3.out | (rw [← hx1]; exact HE.out _ HB3.out)⟩
  go_wp2_with fail
  refine (DI2.out w3 HB3.out).mono ?_
  rintro e w4 ⟨rfl, hb4⟩
  have HB4 := Lib.hid (HB3.out.trans (hb4.mono HB3.out.size))
  have HC4 := Lib.hid (keepC HC3.out hb4)
  clear hb4 hlt c0 c1 c2 c3 c4
  obtain ⟨hlt, c0, c1, c2, c3, c4⟩ := HC4.out
  cases e3
  case false =>
    obtain rfl : v = false := by rw [HR.out]; rfl
    go_wp2_with fail
    go_ret
    exact ⟨by first | rfl | simp, by first | exact HE.out _ HB4.out | (rw [← hx1]; exact HE.out _ HB4.out)⟩
  obtain rfl : e6 = !e5 := HAH.out rfl
  go_wp2_with fail
  refine (CO.out w4 HB4.out).mono ?_
  rintro e w5 ⟨rfl, hb5⟩
  have HB5 := Lib.hid (HB4.out.trans (hb5.mono HB4.out.size))
  have HC5 := Lib.hid (keepC HC4.out hb5)
  clear hb5 hlt c0 c1 c2 c3 c4
  obtain ⟨hlt, c0, c1, c2, c3, c4⟩ := HC5.out
  cases e4
  case false =>
    obtain rfl : v = false := by rw [HR.out]; rfl
    go_wp2_with fail
    go_ret
    exact ⟨by first | rfl | simp, by first | exact HE.out _ HB5.out | (rw [← hx1]; exact HE.out _ HB5.out)⟩
  go_wp2_with fail
  refine (CH.out w5 HB5.out).mono ?_
  rintro e w6 ⟨rfl, hb6⟩
  have HB6 := Lib.hid (HB5.out.trans (hb6.mono HB5.out.size))
  have HC6 := Lib.hid (keepC HC5.out hb6)
  clear hb6 hlt c0 c1 c2 c3 c4
  obtain ⟨hlt, c0, c1, c2, c3, c4⟩ := HC6.out
  cases e5
  case false =>
    obtain rfl : v = false := by rw [HR.out]; rfl
    go_wp2_with fail
    go_ret
    exact ⟨by first | rfl | simp, by first | exact HE.out _ HB6.out | (rw [← hx1]; exact HE.out _ HB6.out)⟩
  go_wp2_with fail
  refine (CR.out w6 HB6.out).mono ?_
  rintro e w7 ⟨rfl, hb7⟩
  have HB7 := Lib.hid (HB6.out.trans (hb7.mono HB6.out.size))
  clear hb7 hlt c0 c1 c2 c3 c4
  have HV := Lib.hid (show v = !decide (32 < kn) from by
    rw [HR.out]
    by_cases h : kn ≤ 32
    · rw [decide_eq_true h, decide_eq_false (by omega)]; rfl
    · rw [decide_eq_false h, decide_eq_true (by omega)]; rfl)
  go_wp2_with fail
  go_ret
  exact ⟨by rw [HV.out]; first | rfl | simp, by first | exact HE.out _ HB7.out | (rw [← hx1]; exact HE.out _ HB7.out)⟩
end Go.Proofs.YthgnecggdlamfaaGreat
