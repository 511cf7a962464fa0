/- Whether shards are the same: the document's. -/
import Derived.Test.YthgnecggdlamfaaYr
import Derived.Deep.RegionLaw
namespace Go.Proofs.Ythgnecggdlamfaa
open Go.RowKit

/-- A shard's cells in a box. -/
structure ShB (w : World) (x : Nat) (s : Sh) (A : Sad) : Prop where
  lt : x < w.heap.size
  c0 : w.cell? ⟨x, 0, none⟩ = some (.slice A.ra s.rows.length A.rc)
  c1 : w.cell? ⟨x, 1, none⟩ = some (.slice A.ha s.holds.length A.hc)
  c2 : w.cell? ⟨x, 2, none⟩ = some (.slice A.oa s.opn.length A.oc)
  c3 : w.cell? ⟨x, 3, none⟩ = some (.slice A.da s.done.length A.dc)
  c4 : w.cell? ⟨x, 4, none⟩ = some (.int .u64 (s.ver : Nat))
theorem ShB.later {w w' : World} {x : Nat} {s : Sh} {A : Sad} (h : ShB w x s A) (hb : Below w.heap.size w w') : ShB w' x s A := by
  have f : ∀ j v, w.cell? ⟨x, j, none⟩ = some v → w'.cell? ⟨x, j, none⟩ = some v := fun j v e => (hb.cell (p := ⟨x, j, none⟩) h.lt).trans e
  exact ⟨Nat.lt_of_lt_of_le h.lt hb.size, f _ _ h.c0, f _ _ h.c1, f _ _ h.c2, f _ _ h.c3, f _ _ h.c4⟩
theorem LB.sb {w0 w : World} {x : Nat} {s : Sh} {A : Sad} (h : LB w0 w x s A) : ShB w x s A := ⟨h.kb.lt, h.c0, h.c1, h.c2, h.c3, h.c4⟩
theorem opn_at {w : World} {s : Sh} {A : Sad} (h : ShM w s A) {k : Nat} {x : Sop} (hx : s.opn[k]? = some x) : ∃ y, A.om[k]? = some y ∧ y.x = x ∧ y ∈ A.om := by
  obtain ⟨y, hy⟩ : ∃ y, A.om[k]? = some y := ⟨_, List.getElem?_eq_getElem (by rw [h.olen]; exact (List.getElem?_eq_some_iff.1 hx).1)⟩
  have h1 : (A.om.map fun y => y.x)[k]? = some y.x := by rw [List.getElem?_map, hy]; rfl
  rw [h.om, hx] at h1
  exact ⟨y, hy, (Option.some.inj h1).symm, List.mem_of_getElem? hy⟩
set_option maxRecDepth 100000 in
set_option maxHeartbeats 8000000 in
theorem rSameS_any (s : Sh) (A : Sad) (r : Sh) (B : Sad) (w : World) (hM : ShM w s A) (zs : SzS s) (hR : ShM w r B) (zr : SzS r) :
    Calls Try.prog 12 #[shV s A, shV r B] w fun e w' => e = .returned (.bool (samS s r)) ∧ Below w.heap.size w w' := by
  obtain ⟨W, hW⟩ : ∃ W, (w.alloc (.cells #[.slice A.ra s.rows.length A.rc, .slice A.ha s.holds.length A.hc, .slice A.oa s.opn.length A.oc, .slice A.da s.done.length A.dc, .int .u64 (s.ver : Nat)] 28)).alloc (.cells #[.slice B.ra r.rows.length B.rc, .slice B.ha r.holds.length B.hc, .slice B.oa r.opn.length B.oc, .slice B.da r.done.length B.dc, .int .u64 (r.ver : Nat)] 28) = W := ⟨_, rfl⟩
  obtain ⟨x2, hx2⟩ : ∃ x, w.heap.size = x := ⟨_, rfl⟩
  have hBX : Below w.heap.size w W ∧ ShB W x2 s A ∧ ShB W (x2 + 1) r B := by
    rw [← hW, ← hx2]
    exact ⟨by go_grown, ⟨by simp; omega, by simp [go_sem], by simp [go_sem], by simp [go_sem], by simp [go_sem], by simp [go_sem]⟩, ⟨by simp, by simp [go_sem], by simp [go_sem], by simp [go_sem], by simp [go_sem], by simp [go_sem]⟩⟩
  obtain ⟨hB, h1, h2⟩ := hBX
  have z1 := zs.rlen
  have z2 := zs.hlen
  have z3 := zs.olen
  have z4 := zs.dlen
  have y1 := zr.rlen
  have y2 := zr.hlen
  have y3 := zr.olen
  have y4 := zr.dlen
  have HQ1 := Lib.hid (rSameRo_any s.rows.length A.rc r.rows.length B.rc A.ra B.ra s.rows r.rows rfl (by omega) rfl (by omega) W (hM.later hB).rows (hR.later hB).rows)
  have HQ2 := Lib.hid (fun w' (h : Below W.heap.size W w') => rSameHo_any s.holds.length A.hc r.holds.length B.hc A.ha B.ha s.holds r.holds rfl (by omega) rfl (by omega) w' ((hM.later hB).later h).holds ((hR.later hB).later h).holds)
  have HPS := Lib.hid (fun w' (h : Below W.heap.size W w') (y z : SopM) (hy : y ∈ A.om) (hz : z ∈ B.om) => rSamePuts_any y.x.puts.length y.c z.x.puts.length z.c y.a z.a y.x.puts z.x.puts rfl (by have := (zs.opn y.x (by rw [← hM.om]; exact List.mem_map.2 ⟨y, hy, rfl⟩)).2.1; omega) rfl (by have := (zr.opn z.x (by rw [← hR.om]; exact List.mem_map.2 ⟨z, hz, rfl⟩)).2.1; omega) w' (((hM.later hB).later h).puts y hy) (((hR.later hB).later h).puts z hz))
  have HM := Lib.hid (hM.later hB)
  have HR := Lib.hid (hR.later hB)
  have HB0 := Lib.hid hB
  have H1 := Lib.hid h1
  have H2 := Lib.hid h2
  have HW := Lib.hid hW
  have HX2 := Lib.hid hx2
  obtain ⟨v, hv⟩ : ∃ v, samS s r = v := ⟨_, rfl⟩
  rw [hv]
  unfold samS at hv
  obtain ⟨e1, he1⟩ : ∃ e, samL samRo s.rows r.rows = e := ⟨_, rfl⟩
  obtain ⟨e2, he2⟩ : ∃ e, samL samHo s.holds r.holds = e := ⟨_, rfl⟩
  rw [he1] at hv HQ1
  rw [he2] at hv HQ2
  obtain ⟨⟨_, c0, c1, c2, c3, c4⟩, ⟨_, d0, d1, d2, d3, d4⟩⟩ := And.intro H1.out H2.out
  clear hB h1 h2 hW hx2 zs zr hM hR he1 he2
  have HV := Lib.hid hv
  clear hv
  go_enter Try.func12, Try.ntmps12
  go_wp2_with fail
  rw [HW.out, HX2.out]
  refine HQ1.out.mono ?_
  rintro e w1 ⟨rfl, hb1⟩
  have HB1 := Lib.hid hb1
  clear hb1 c0 c1 c2 c3 c4 d0 d1 d2 d3 d4
  obtain ⟨⟨_, c0, c1, c2, c3, c4⟩, ⟨_, d0, d1, d2, d3, d4⟩⟩ := And.intro (H1.out.later HB1.out) (H2.out.later HB1.out)
  go_wp2_with fail
  refine (HQ2.out w1 HB1.out).mono ?_
  rintro e w2 ⟨rfl, hb2⟩
  have HB2 := Lib.hid (HB1.out.trans (hb2.mono HB1.out.size))
  have HE := Lib.hid (fun w' (h : Below W.heap.size W w') => HB0.out.trans (h.mono HB0.out.size))
  clear hb2 c0 c1 c2 c3 c4 d0 d1 d2 d3 d4
  obtain ⟨⟨_, c0, c1, c2, c3, c4⟩, ⟨_, d0, d1, d2, d3, d4⟩⟩ := And.intro (H1.out.later HB2.out) (H2.out.later HB2.out)
  cases e1
  case false =>
    obtain rfl : v = false := by rw [← HV.out]; rfl
    go_wp2_with fail
    go_ret
    exact ⟨by first | rfl | simp, HE.out _ HB2.out⟩
  cases e2
  case false =>
    obtain rfl : v = false := by rw [← HV.out]; rfl
    go_wp2_with fail
    go_ret
    exact ⟨by first | rfl | simp, HE.out _ HB2.out⟩
  by_cases hve : s.ver = r.ver
  case neg =>
    obtain rfl : v = false := by rw [← HV.out]; simp [hve]
    have g1 := int_ne hve
    have g2 : ((s.ver : Int) != (r.ver : Int)) = true := by simp; omega
    go_wp2_with fail
    go_ret
    exact ⟨by first | rfl | simp, HE.out _ HB2.out⟩
  by_cases hol : s.opn.length = r.opn.length
  case neg =>
    obtain rfl : v = false := by rw [← HV.out, samL_len samOp _ _ hol]; simp
    have g1 := int_ne hol
    have g2 : ((s.opn.length : Int) != (r.opn.length : Int)) = true := by simp; omega
    rw [hve] at c4
    go_wp2_with fail
    go_ret
    exact ⟨by first | rfl | simp, HE.out _ HB2.out⟩
  by_cases hdl : s.done.length = r.done.length
  case neg =>
    obtain rfl : v = false := by rw [← HV.out, samL_len samDn _ _ hdl]; simp
    have g1 := int_ne hdl
    have g2 : ((s.done.length : Int) != (r.done.length : Int)) = true := by simp; omega
    rw [hve] at c4
    rw [hol] at c2
    go_wp2_with fail
    go_ret
    exact ⟨by first | rfl | simp, HE.out _ HB2.out⟩
  rw [decide_eq_true hve] at HV
  have HVE := Lib.hid hve
  have HOL := Lib.hid hol
  have HDL := Lib.hid hdl
  obtain ⟨no, hno⟩ : ∃ n, r.opn.length = n := ⟨_, rfl⟩
  obtain ⟨nd, hnd⟩ : ∃ n, r.done.length = n := ⟨_, rfl⟩
  have F1 := Lib.hid (fun w' (h : Below W.heap.size W w') => (show w'.cell? ⟨x2, 2, none⟩ = some (.slice A.oa no A.oc) ∧ w'.cell? ⟨x2 + 1, 2, none⟩ = some (.slice B.oa no B.oc) from ⟨by rw [← hno, ← hol]; exact (H1.out.later h).c2, by rw [← hno]; exact (H2.out.later h).c2⟩))
  have F2 := Lib.hid (fun w' (h : Below W.heap.size W w') => (show w'.cell? ⟨x2, 3, none⟩ = some (.slice A.da nd A.dc) ∧ w'.cell? ⟨x2 + 1, 3, none⟩ = some (.slice B.da nd B.dc) from ⟨by rw [← hnd, ← hdl]; exact (H1.out.later h).c3, by rw [← hnd]; exact (H2.out.later h).c3⟩))
  have L1 := Lib.hid (hol.trans hno)
  have L2 := Lib.hid hno
  have L3 := Lib.hid (hdl.trans hnd)
  have L4 := Lib.hid hnd
  have hno2 : no ≤ 140737488351232 := by omega
  have hnd2 : nd ≤ 140737488351232 := by omega
  rw [hve] at c4
  rw [hol, hno] at c2
  rw [hdl, hnd] at c3
  rw [hno] at d2
  rw [hnd] at d3
  clear hve hol hdl hno hnd z1 z2 z3 z4 y1 y2 y3 y4
  have HV2 := Lib.hid (show (samL samOp (s.opn.drop 0) (r.opn.drop 0) && samL samDn s.done r.done) = v from by rw [← HV.out]; rfl)
  go_upto_region 5 with (fail)
  clear c0 c1 c2 c3 c4 d0 d1 d2 d3 d4
  go_wp2_with fail
  go_loopw [7] (fun iv wr => ∃ k : Nat, k ≤ no ∧ iv = .int .i64 k ∧ (samL samOp (s.opn.drop k) (r.opn.drop k) && samL samDn s.done r.done) = v ∧ Below W.heap.size W wr) (fun iv _ => no - (intOf iv).toNat)
  case atStart => exact ⟨0, Nat.zero_le _, rfl, HV2.out, HB2.out⟩
  case round =>
    obtain ⟨k, hk, rfl, hf, hB⟩ := hrel
    have HF := Lib.hid hf
    have HB := Lib.hid hB
    obtain ⟨f1, f2⟩ := F1.out wr hB
    clear hf hB
    by_cases hlt : k < no
    case neg =>
      have i1 : ¬ (k : Int) < (no : Int) := by omega
      have HV3 := Lib.hid (show samL samDn (s.done.drop 0) (r.done.drop 0) = v from by
        have := HF.out
        rw [List.drop_eq_nil_of_le (by rw [L1.out]; omega), List.drop_eq_nil_of_le (by rw [L2.out]; omega)] at this
        rw [← this]; rfl)
      go_wp2_with fail
      go_loopw [9] (fun iv wx => ∃ k : Nat, k ≤ nd ∧ iv = .int .i64 k ∧ samL samDn (s.done.drop k) (r.done.drop k) = v ∧ Below W.heap.size W wx) (fun iv _ => nd - (intOf iv).toNat)
      case atStart => exact ⟨0, Nat.zero_le _, rfl, HV3.out, HB.out⟩
      case round =>
        obtain ⟨j, hj, rfl, hf, hB⟩ := hrel
        have HG := Lib.hid hf
        have HC := Lib.hid hB
        obtain ⟨f3, f4⟩ := F2.out wr hB
        by_cases hlj : j < nd
        case neg =>
          have i2 : ¬ (j : Int) < (nd : Int) := by omega
          obtain rfl : v = true := by
            rw [← hf, List.drop_eq_nil_of_le (by rw [L3.out]; omega), List.drop_eq_nil_of_le (by rw [L4.out]; omega)]; rfl
          clear hf hB
          go_wp2_with fail
          go_ret
          exact ⟨by first | rfl | simp, HE.out _ HC.out⟩
        obtain ⟨x, hx⟩ : ∃ x, s.done[j]? = some x := ⟨_, List.getElem?_eq_getElem (by rw [L3.out]; exact hlj)⟩
        obtain ⟨y, hy⟩ : ∃ y, r.done[j]? = some y := ⟨_, List.getElem?_eq_getElem (by rw [L4.out]; exact hlj)⟩
        have i2 : (0 : Int) ≤ (j : Int) := by omega
        have i3 : (j : Int) < (nd : Int) := by omega
        have HA := Lib.hid (hf.symm.trans (samL_at hx hy))
        obtain ⟨b1, o1, e1, _, p0, p1, p2⟩ := Sdn.cells (HM.out.later hB).done hx
        obtain ⟨b2, o2, e2, _, q0, q1, q2⟩ := Sdn.cells (HR.out.later hB).done hy
        rw [e1] at f3
        rw [e2] at f4
        obtain ⟨⟨xa, xi⟩, xc⟩ := x
        obtain ⟨⟨ya, yi⟩, yc⟩ := y
        simp only at p0 p1 p2 q0 q1 q2 HA
        clear hx hy hf hB e1 e2
        by_cases h0 : xa = ya
        case neg =>
          have g1 := int_ne h0
          obtain rfl : v = false := by rw [HA.out]; simp [samDn, h0]
          go_wp2_with fail
          go_quiet (fail)
          go_wp2_with fail
          go_ret
          exact ⟨by first | rfl | simp, below_drewN (HE.out _ HC.out) _⟩
        subst h0
        by_cases h0 : xi = yi
        case neg =>
          have g1 := int_ne h0
          obtain rfl : v = false := by rw [HA.out]; simp [samDn, h0]
          go_wp2_with fail
          go_quiet (fail)
          go_wp2_with fail
          go_ret
          exact ⟨by first | rfl | simp, below_drewN (HE.out _ HC.out) _⟩
        subst h0
        by_cases h0 : xc = yc
        case neg =>
          have g1 : (xc == yc) = false := by simpa using h0
          obtain rfl : v = false := by rw [HA.out]; simp [samDn, g1]
          go_wp2_with fail
          go_quiet (fail)
          go_wp2_with fail
          go_ret
          exact ⟨by first | rfl | simp, below_drewN (HE.out _ HC.out) _⟩
        subst h0
        have HT := Lib.hid (show samL samDn (s.done.drop (j + 1)) (r.done.drop (j + 1)) = v by rw [HA.out]; simp [samDn])
        go_wp2_with fail
        go_quiet (fail)
        go_wp2_with fail
        go_roundw
        case rel => exact ⟨j + 1, by omega, by go_num, HT.out, below_drewN HC.out _⟩
        case measure => simp [intOf]; omega
    obtain ⟨x, hx⟩ : ∃ x, s.opn[k]? = some x := ⟨_, List.getElem?_eq_getElem (by rw [L1.out]; exact hlt)⟩
    obtain ⟨y, hy⟩ : ∃ y, r.opn[k]? = some y := ⟨_, List.getElem?_eq_getElem (by rw [L2.out]; exact hlt)⟩
    have i0 : (0 : Int) ≤ (k : Int) := by omega
    have i1 : (k : Int) < (no : Int) := by omega
    have HA := Lib.hid (HF.out.symm.trans (congrArg (fun z => z && samL samDn s.done r.done) (samL_at (f := samOp) hx hy)))
    obtain ⟨X, hX, hXx, hXm⟩ := opn_at HM.out hx
    obtain ⟨Y, hY, hYy, hYm⟩ := opn_at HR.out hy
    have HCP := Lib.hid (fun w' (h : Below W.heap.size W w') => HPS.out w' h X Y hXm hYm)
    have HXC := Lib.hid (fun w' (h : Below W.heap.size W w') => Sop.cells (HM.out.later h).opn hX)
    have HYC := Lib.hid (fun w' (h : Below W.heap.size W w') => Sop.cells (HR.out.later h).opn hY)
    rw [hXx] at HXC HCP
    rw [hYy] at HYC HCP
    obtain ⟨b1, o1, e1, _, p0, p1, p2, p3, p4⟩ := HXC.out wr HB.out
    obtain ⟨b2, o2, e2, _, q0, q1, q2, q3, q4⟩ := HYC.out wr HB.out
    have F3 := Lib.hid (fun w' (h : Below W.heap.size W w') => (show w'.cell? ⟨x2, 2, none⟩ = some (.slice (some ⟨b1, o1, none⟩) no A.oc) ∧ w'.cell? ⟨x2 + 1, 2, none⟩ = some (.slice (some ⟨b2, o2, none⟩) no B.oc) from by rw [← e1, ← e2]; exact F1.out w' h))
    have F4 := Lib.hid (fun w' (h : Below W.heap.size W w') => (show w'.cell? ⟨b1, o1 + k * 5, none⟩ = some (.int .u64 (x.t.age : Nat)) ∧ w'.cell? ⟨b1, o1 + k * 5 + 1, none⟩ = some (.int .u64 (x.t.id : Nat)) ∧ w'.cell? ⟨b1, o1 + k * 5 + 2, none⟩ = some (.bool x.fm) ∧ w'.cell? ⟨b1, o1 + k * 5 + 3, none⟩ = some (.bool x.wd) from by
      obtain ⟨b3, o3, e3, _, g0, g1, g2, g3, _⟩ := HXC.out w' h
      rw [e1] at e3; cases e3; exact ⟨g0, g1, g2, g3⟩))
    have F5 := Lib.hid (fun w' (h : Below W.heap.size W w') => (show w'.cell? ⟨b2, o2 + k * 5, none⟩ = some (.int .u64 (y.t.age : Nat)) ∧ w'.cell? ⟨b2, o2 + k * 5 + 1, none⟩ = some (.int .u64 (y.t.id : Nat)) ∧ w'.cell? ⟨b2, o2 + k * 5 + 2, none⟩ = some (.bool y.fm) ∧ w'.cell? ⟨b2, o2 + k * 5 + 3, none⟩ = some (.bool y.wd) from by
      obtain ⟨b3, o3, e3, _, g0, g1, g2, g3, _⟩ := HYC.out w' h
      rw [e2] at e3; cases e3; exact ⟨g0, g1, g2, g3⟩))
    rw [e1] at f1
    rw [e2] at f2
    obtain ⟨⟨xa, xi⟩, xf, xw, xp⟩ := x
    obtain ⟨⟨ya, yi⟩, yf, yw, yp⟩ := y
    simp only at p0 p1 p2 p3 p4 q0 q1 q2 q3 q4 HA HCP F4 F5
    obtain ⟨pz, hpz⟩ : ∃ z, samPs xp yp = z := ⟨_, rfl⟩
    rw [hpz] at HCP
    have HPZ := Lib.hid hpz
    clear hx hy hX hY hXx hYy hXm hYm HXC HYC e1 e2 hpz
    have HCPO := HCP.out
    have HDR := Lib.hid (HB.out.drew)
    go_upto_region 8 with (fail)
    go_cut [8] (fun bv wx => bv = .bool pz ∧ Below W.heap.size W wx)
    case first =>
      go_region_law (go_simp; go_at_call 27; (with_reducible refine (HCPO _ HDR.out).mono ?_); rintro e w3 ⟨rfl, hb3⟩; have HB3 := Lib.hid (HDR.out.trans (hb3.mono HDR.out.size)); clear hb3)
      all_goals
        clear f1 f2 p0 p1 p2 p3 p4 q0 q1 q2 q3 q4 HCPO
        go_wp2_with fail
        go_meet
        exact ⟨rfl, HB3.out⟩
    case rest =>
      obtain ⟨rfl, hb3⟩ := hcut
      have HB3 := Lib.hid hb3
      clear hb3
      clear f1 f2 p0 p1 p2 p3 p4 q0 q1 q2 q3 q4 HCPO
      obtain ⟨f1, f2⟩ := F3.out _ HB3.out
      obtain ⟨p0, p1, p2, p3⟩ := F4.out _ HB3.out
      obtain ⟨q0, q1, q2, q3⟩ := F5.out _ HB3.out
      cases pz
      case false =>
        obtain rfl : v = false := by rw [HA.out]; simp [samOp, HPZ.out]
        go_wp2_with fail
        go_quiet (fail)
        go_wp2_with fail
        go_ret
        exact ⟨by first | rfl | simp, below_drewN (HE.out _ HB3.out) _⟩
      by_cases h0 : xa = ya
      case neg =>
        have g1 := int_ne h0
        obtain rfl : v = false := by rw [HA.out]; simp [samOp, h0]
        go_wp2_with fail
        go_quiet (fail)
        go_wp2_with fail
        go_ret
        exact ⟨by first | rfl | simp, below_drewN (HE.out _ HB3.out) _⟩
      subst h0
      by_cases h0 : xi = yi
      case neg =>
        have g1 := int_ne h0
        obtain rfl : v = false := by rw [HA.out]; simp [samOp, h0]
        go_wp2_with fail
        go_quiet (fail)
        go_wp2_with fail
        go_ret
        exact ⟨by first | rfl | simp, below_drewN (HE.out _ HB3.out) _⟩
      subst h0
      by_cases h0 : xf = yf
      case neg =>
        have g1 : (xf == yf) = false := by simpa using h0
        obtain rfl : v = false := by rw [HA.out]; simp [samOp, g1]
        go_wp2_with fail
        go_quiet (fail)
        go_wp2_with fail
        go_ret
        exact ⟨by first | rfl | simp, below_drewN (HE.out _ HB3.out) _⟩
      subst h0
      by_cases h0 : xw = yw
      case neg =>
        have g1 : (xw == yw) = false := by simpa using h0
        obtain rfl : v = false := by rw [HA.out]; simp [samOp, g1]
        go_wp2_with fail
        go_quiet (fail)
        go_wp2_with fail
        go_ret
        exact ⟨by first | rfl | simp, below_drewN (HE.out _ HB3.out) _⟩
      subst h0
      have HT := Lib.hid (show (samL samOp (s.opn.drop (k + 1)) (r.opn.drop (k + 1)) && samL samDn s.done r.done) = v by rw [HA.out]; simp [samOp, HPZ.out])
      go_wp2_with fail
      go_quiet (fail)
      go_wp2_with fail
      go_roundw
      case rel => exact ⟨k + 1, by omega, by go_num, HT.out, below_drewN HB3.out _⟩
      case measure => simp [intOf]; omega
end Go.Proofs.Ythgnecggdlamfaa
