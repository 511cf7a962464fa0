/- Whether a shard is right: the document's. -/
import Derived.Test.YthgnecggdlamfaaGreatYx
import Derived.Test.YthgnecggdlamfaaGreatVf
namespace Go.Proofs.YthgnecggdlamfaaGreat
open Go.RowKit

/-- An open transaction in a box. -/
structure SoB (w : World) (x : Nat) (y : SopM) : Prop where
  lt : x < w.heap.size
  c0 : w.cell? ⟨x, 0, none⟩ = some (.int .u64 (y.x.t.age : Nat))
  c1 : w.cell? ⟨x, 1, none⟩ = some (.int .u64 (y.x.t.id : Nat))
  c2 : w.cell? ⟨x, 2, none⟩ = some (.bool y.x.fm)
  c3 : w.cell? ⟨x, 3, none⟩ = some (.bool y.x.wd)
  c4 : w.cell? ⟨x, 4, none⟩ = some (.slice y.a y.x.puts.length y.c)
theorem SoB.later {w w' : World} {x : Nat} {y : SopM} (h : SoB w x y) (hb : Below w.heap.size w w') : SoB w' x y := by
  have f : ∀ j v, w.cell? ⟨x, j, none⟩ = some v → w'.cell? ⟨x, j, none⟩ = some v := fun j v e => (hb.cell (p := ⟨x, j, none⟩) h.lt).trans e
  exact ⟨Nat.lt_of_lt_of_le h.lt hb.size, f _ _ h.c0, f _ _ h.c1, f _ _ h.c2, f _ _ h.c3, f _ _ h.c4⟩
theorem ixI_ne {r : Option Nat} {k : Nat} (h : ¬ r = some k) : (ixI r == (k : Int)) = false ∧ (ixI r != (k : Int)) = true := by
  cases r with
  | none => constructor <;> (simp [ixI] <;> omega)
  | some j =>
    have hj : ¬ j = k := fun e => h (by rw [e])
    constructor <;> (simp [ixI] <;> omega)
set_option maxRecDepth 100000 in
set_option maxHeartbeats 8000000 in
theorem rRightS_any (s : Sh) (A : Sad) (w : World) (hM : ShM w s A) (zs : SzS s) :
    Calls Tryz.prog 6 #[shV s A] w fun e w' => e = .returned (.bool (rightS s)) ∧ Below w.heap.size w w' := by
  obtain ⟨W, hW⟩ : ∃ W, w.alloc (.cells #[.slice A.ra s.rows.length A.rc, .slice A.ha s.holds.length A.hc, .slice A.oa s.opn.length A.oc, .slice A.da s.done.length A.dc, .int .u64 (s.ver : Nat)] 28) = W := ⟨_, rfl⟩
  obtain ⟨x1, hx1⟩ : ∃ x, w.heap.size = x := ⟨_, rfl⟩
  have hBX : Below w.heap.size w W ∧ ShB W x1 s A := by
    rw [← hW, ← hx1]
    exact ⟨by go_grown, ⟨by simp, by simp [go_sem], by simp [go_sem], by simp [go_sem], by simp [go_sem], by simp [go_sem]⟩⟩
  obtain ⟨hB, h1⟩ := hBX
  have z1 := zs.rlen
  have z2 := zs.hlen
  have z3 := zs.olen
  have z4 := zs.dlen
  have RO := Lib.hid (rRight_any s.rows.length A.rc A.ra s.rows rfl (by omega) zs.rows W (hM.later hB).rows)
  have RH := Lib.hid (fun w' (h : Below W.heap.size W w') => rRightH_any s.holds.length A.hc A.ha s.holds rfl (by omega) w' ((hM.later hB).later h).holds)
  have KY := Lib.hid (fun w' (h : Below W.heap.size W w') => rKeys_any s A 0 0 none [] rfl (by decide) (by omega) (by omega) (fun x hx => by have := (zs.opn x hx).2.1; omega) (by have := zs.keys; omega) w' ((hM.later hB).later h) (Rw.nil _))
  have KN := Lib.hid (fun w' (h : Below W.heap.size W w') (t : Tx) => rKnown_any s A t (by omega) w' ((hM.later hB).later h))
  have OV := Lib.hid (fun w' (h : Below W.heap.size W w') (t : Tx) => rOver_any s A t (by omega) w' ((hM.later hB).later h))
  have FT := Lib.hid (fun w' (h : Below W.heap.size W w') (y : SopM) (hy : y ∈ A.om) => rFits_any y.x.puts.length y.c y.a y.x.puts rfl (by have := (zs.opn y.x (by rw [← hM.om]; exact List.mem_map.2 ⟨y, hy, rfl⟩)).2.1; omega) w' (((hM.later hB).later h).puts y hy))
  have PL := Lib.hid (fun (y : SopM) (hy : y ∈ A.om) => (show y.x.puts.length ≤ 140737488351232 by have := (zs.opn y.x (by rw [← hM.om]; exact List.mem_map.2 ⟨y, hy, rfl⟩)).2.1; omega))
  have HA := Lib.hid (fun w' (h : Below W.heap.size W w') (t : Tx) (key : ByteArray) => rHas_any s.holds.length A.hc A.ha s.holds t key true rfl (by omega) w' ((hM.later hB).later h).holds)
  have HM := Lib.hid (hM.later hB)
  have HB0 := Lib.hid hB
  have H1 := Lib.hid h1
  have HW := Lib.hid hW
  have HX1 := Lib.hid hx1
  have HE := Lib.hid (fun w' (h : Below W.heap.size W w') => hB.trans (h.mono hB.size))
  obtain ⟨v, hv⟩ : ∃ v, rightS s = v := ⟨_, rfl⟩
  rw [hv]
  rw [rightS_by] at hv
  obtain ⟨e1, he1⟩ : ∃ e, rightB s.rows = e := ⟨_, rfl⟩
  obtain ⟨e2, he2⟩ : ∃ e, rightH s.holds = e := ⟨_, rfl⟩
  obtain ⟨kn, hkn⟩ : ∃ e, keysN s [] = e := ⟨_, rfl⟩
  obtain ⟨no, hno⟩ : ∃ n, s.opn.length = n := ⟨_, rfl⟩
  obtain ⟨nd, hnd⟩ : ∃ n, s.done.length = n := ⟨_, rfl⟩
  obtain ⟨nh, hnh⟩ : ∃ n, s.holds.length = n := ⟨_, rfl⟩
  rw [he1, he2, hkn, hno, hnd] at hv
  rw [he1] at RO
  rw [he2] at RH
  rw [hkn] at KY
  have HNO := Lib.hid hno
  have HND := Lib.hid hnd
  have HNH := Lib.hid hnh
  have SV := Lib.hid (show shV s A = .agg #[.slice A.ra s.rows.length A.rc, .slice A.ha nh A.hc, .slice A.oa no A.oc, .slice A.da nd A.dc, .int .u64 (s.ver : Nat)] by rw [← hno, ← hnd, ← hnh])
  rw [SV.out] at KY KN OV
  rw [hnh] at RH HA
  have hno2 : no ≤ 140737488351232 := by omega
  have hnd2 : nd ≤ 140737488351232 := by omega
  have hnh2 : nh ≤ 140737488351232 := by omega
  have HV := Lib.hid hv
  obtain ⟨_, c0, _, _, _, _⟩ := H1.out
  clear hB h1 hW hx1 zs hM he1 he2 hkn hno hnd hnh hv z1 z2 z3 z4
  go_enter Tryz.func6, Tryz.ntmps6
  go_wp2_with fail
  rw [HW.out, HX1.out]
  refine RO.out.mono ?_
  rintro e w1 ⟨rfl, hb1⟩
  have HB1 := Lib.hid hb1
  clear hb1 c0
  obtain ⟨_, c0, c1, c2, c3, c4⟩ := H1.out.later HB1.out
  rw [HNO.out] at c2
  rw [HND.out] at c3
  rw [HNH.out] at c1
  go_wp2_with fail
  refine (RH.out w1 HB1.out).mono ?_
  rintro e w2 ⟨rfl, hb2⟩
  have HB2 := Lib.hid (HB1.out.trans (hb2.mono HB1.out.size))
  clear hb2 c0 c1 c2 c3 c4
  obtain ⟨_, c0, c1, c2, c3, c4⟩ := H1.out.later HB2.out
  rw [HNO.out] at c2
  rw [HND.out] at c3
  rw [HNH.out] at c1
  cases e1
  case false =>
    obtain rfl : v = false := by rw [← HV.out]; rfl
    go_wp2_with fail
    go_ret
    exact ⟨by first | rfl | simp, HE.out _ HB2.out⟩
  cases e2
  case false =>
    obtain rfl : v = false := by rw [← HV.out]; rfl
    go_wp2_with fail
    go_ret
    exact ⟨by first | rfl | simp, HE.out _ HB2.out⟩
  by_cases h64 : no + nd ≤ 64
  case neg =>
    obtain rfl : v = false := by rw [← HV.out, decide_eq_false h64]; rfl
    have g1 : (64 : Int) < (no : Int) + (nd : Int) := by omega
    have g2 : IntKind.i64.wrap ((no : Int) + (nd : Int)) = (no : Int) + (nd : Int) := IntWalk.i64_in _ (by omega)
    go_wp2_with fail
    go_ret
    exact ⟨by first | rfl | simp, HE.out _ HB2.out⟩
  have g1 : ¬ (64 : Int) < (no : Int) + (nd : Int) := by omega
  rw [decide_eq_true h64] at HV
  clear h64
  go_wp2_with fail
  refine (KY.out w2 HB2.out).mono ?_
  rintro e w3 ⟨rfl, hb3⟩
  have HB3 := Lib.hid (HB2.out.trans (hb3.mono HB2.out.size))
  clear hb3 c0 c1 c2 c3 c4
  by_cases h32 : kn ≤ 32
  case neg =>
    obtain rfl : v = false := by rw [← HV.out, decide_eq_false h32]; rfl
    have g2 : (32 : Int) < (kn : Int) := by omega
    go_wp2_with fail
    go_ret
    exact ⟨by first | rfl | simp, HE.out _ HB3.out⟩
  have g2 : ¬ (32 : Int) < (kn : Int) := by omega
  rw [decide_eq_true h32] at HV
  have HV1 := Lib.hid (show (opA s 0 (s.opn.drop 0) && (dnA s 0 s.done && hoA s s.holds)) = v from by rw [← HV.out]; rfl)
  clear h32 HV
  go_upto_region 5 with (fail)
  clear g1 g2
  go_wp2_with fail
  go_loopw [5] (fun iv wr => ∃ k : Nat, k ≤ no ∧ iv = .int .i64 k ∧ (opA s k (s.opn.drop k) && (dnA s 0 s.done && hoA s s.holds)) = v ∧ Below W.heap.size W wr) (fun iv _ => no - (intOf iv).toNat)
  case atStart => exact ⟨0, Nat.zero_le _, rfl, HV1.out, HB3.out⟩
  case round =>
    obtain ⟨k, hk, rfl, hf, hB⟩ := hrel
    have HF := Lib.hid hf
    have HB := Lib.hid hB
    obtain ⟨_, c0, c1, c2, c3, c4⟩ := H1.out.later hB
    rw [HNO.out] at c2
    rw [HND.out] at c3
    rw [HNH.out] at c1
    clear hf hB
    by_cases hlt : k < no
    case neg =>
      have i1 : ¬ (k : Int) < (no : Int) := by omega
      have HV3 := Lib.hid (show (dnA s 0 (s.done.drop 0) && hoA s s.holds) = v from by
        have := HF.out
        rw [List.drop_eq_nil_of_le (by rw [HNO.out]; omega)] at this
        rw [← this]; rfl)
      go_upto_region 17 with (fail)
      clear c0 c1 c2 c3 c4
      go_wp2_with fail
      go_loopw [9] (fun iv wx => ∃ j : Nat, j ≤ nd ∧ iv = .int .i64 j ∧ (dnA s j (s.done.drop j) && hoA s s.holds) = v ∧ Below W.heap.size W wx) (fun iv _ => nd - (intOf iv).toNat)
      case atStart => exact ⟨0, Nat.zero_le _, rfl, HV3.out, HB.out⟩
      case round =>
        obtain ⟨j, hj, rfl, hf, hB⟩ := hrel
        have HG := Lib.hid hf
        have HC := Lib.hid hB
        obtain ⟨_, c0, c1, c2, c3, c4⟩ := H1.out.later hB
        rw [HNO.out] at c2
        rw [HND.out] at c3
        rw [HNH.out] at c1
        clear hf hB
        by_cases hlj : j < nd
        case neg =>
          have i2 : ¬ (j : Int) < (nd : Int) := by omega
          have HV4 := Lib.hid (show hoA s (s.holds.drop 0) = v from by
            have := HG.out
            rw [List.drop_eq_nil_of_le (by rw [HND.out]; omega)] at this
            rw [← this]; rfl)
          go_upto_region 22 with (fail)
          clear c0 c1 c2 c3 c4
          go_wp2_with fail
          go_loopw [10] (fun iv wx => ∃ i : Nat, i ≤ nh ∧ iv = .int .i64 i ∧ hoA s (s.holds.drop i) = v ∧ Below W.heap.size W wx) (fun iv _ => nh - (intOf iv).toNat)
          case atStart => exact ⟨0, Nat.zero_le _, rfl, HV4.out, HC.out⟩
          case round =>
            obtain ⟨i, hi, rfl, hf, hB⟩ := hrel
            have HK := Lib.hid hf
            have HD := Lib.hid hB
            obtain ⟨_, c0, c1, c2, c3, c4⟩ := H1.out.later hB
            rw [HNO.out] at c2
            rw [HND.out] at c3
            rw [HNH.out] at c1
            by_cases hli : i < nh
            case neg =>
              have i3 : ¬ (i : Int) < (nh : Int) := by omega
              obtain rfl : v = true := by rw [← hf, List.drop_eq_nil_of_le (by rw [HNH.out]; omega)]; rfl
              clear hf hB
              go_wp2_with fail
              go_ret
              exact ⟨by first | rfl | simp, HE.out _ HD.out⟩
            have HLI := Lib.hid hli
            obtain ⟨x, hx⟩ : ∃ x, s.holds[i]? = some x := ⟨_, List.getElem?_eq_getElem (by rw [HNH.out]; exact hli)⟩
            have k0 : (0 : Int) ≤ (i : Int) := by omega
            have k1 : (i : Int) < (nh : Int) := by omega
            have HAT := Lib.hid (hf.symm.trans (hoA_at hx))
            obtain ⟨b1, o1, eb, _, _, p1, p2, _⟩ := Hos.cells (HM.out.later hB).holds hx
            rw [eb] at c1
            obtain ⟨xk, ⟨xa, xi⟩, xw⟩ := x
            simp only at p1 p2 HAT
            have HKX := Lib.hid (fun w' (h : Below W.heap.size W w') => KN.out w' h ⟨xa, xi⟩)
            obtain ⟨kr, hkr⟩ : ∃ z, kixS ⟨xa, xi⟩ 0 s.opn = z := ⟨_, rfl⟩
            rw [hkr] at HKX
            rw [eb] at HKX
            have HKI := Lib.hid (show (kr = none ∧ knoS ⟨xa, xi⟩ s.opn = none) ∨ ∃ j x, kr = some j ∧ s.opn[j]? = some x ∧ knoS ⟨xa, xi⟩ s.opn = some x from by
              have := kix_is (t := ⟨xa, xi⟩) (O := s.opn); rw [hkr] at this; exact this)
            have HKXO := HKX.out
            have HDR := Lib.hid (show Below W.heap.size W wr.drew from hB.drew)
            have SC := Lib.hid (fun w' (h : Below W.heap.size W w') => (show w'.cell? ⟨x1, 2, none⟩ = some (.slice A.oa no A.oc) from by rw [← HNO.out]; exact (H1.out.later h).c2))
            clear hx hf hB hkr eb hli
            go_upto_region 25 with (fail)
            go_cut [11] (fun iv wx => iv = .int .i64 (ixI kr) ∧ Below W.heap.size W wx)
            case first =>
              go_region_law (go_simp; go_at_call 23; (with_reducible refine (HKXO _ HDR.out).mono ?_); rintro e w5 ⟨rfl, hb5⟩; have HB5 := Lib.hid (HDR.out.trans (hb5.mono HDR.out.size)); clear hb5)
              all_goals
                clear c0 c1 c2 c3 c4 p1 p2 HKXO
                go_wp2_with fail
                go_meet
                exact ⟨rfl, HB5.out⟩
            case rest =>
              obtain ⟨rfl, hb5⟩ := hcut
              have HB5 := Lib.hid hb5
              clear hb5 c0 c1 c2 c3 c4 p1 p2 HKXO
              rcases HKI.out with ⟨rfl, hn⟩ | ⟨q, X, rfl, hjx, hkx⟩
              · obtain rfl : v = false := by rw [HAT.out, hn]; rfl
                have jn : ixI none < 0 := by decide
                clear hn
                go_wp2_with fail
                go_ret
                exact ⟨by first | rfl | simp, HE.out _ HB5.out⟩
              · rw [hkx] at HAT
                have c2 := SC.out _ HB5.out
                obtain ⟨y, hy, hyx, _⟩ := opn_at (HM.out.later HB5.out) hjx
                obtain ⟨b2, o2, e2, _, _, _, _, q3, _⟩ := Sop.cells (HM.out.later HB5.out).opn hy
                rw [hyx] at q3
                rw [e2] at c2
                have hqn := (List.getElem?_eq_some_iff.1 hjx).1
                rw [HNO.out] at hqn
                have jj : ixI (some q) = (q : Int) := rfl
                rw [jj]
                have j0 : (0 : Int) ≤ (q : Int) := by omega
                have j1 : (q : Int) < (no : Int) := by omega
                have j2 : ¬ (q : Int) < 0 := by omega
                obtain ⟨xt, xf, xw, xp⟩ := X
                simp only at q3 HAT
                clear hjx hkx hy hyx e2 jj hqn HKI
                cases xw
                case true =>
                  obtain rfl : v = false := by rw [HAT.out]; rfl
                  go_wp2_with fail
                  go_ret
                  exact ⟨by first | rfl | simp, HE.out _ HB5.out⟩
                have HT := Lib.hid (show hoA s (s.holds.drop (i + 1)) = v by rw [HAT.out]; rfl)
                go_wp2_with fail
                go_roundw
                case rel => exact ⟨i + 1, HLI.out, by go_num, HT.out, HB5.out⟩
                case measure => have := HLI.out; simp [intOf]; omega
        have HLJ := Lib.hid hlj
        obtain ⟨x, hx⟩ : ∃ x, s.done[j]? = some x := ⟨_, List.getElem?_eq_getElem (by rw [HND.out]; exact hlj)⟩
        have k0 : (0 : Int) ≤ (j : Int) := by omega
        have k1 : (j : Int) < (nd : Int) := by omega
        have HAT := Lib.hid (HG.out.symm.trans (congrArg (fun z => z && hoA s s.holds) (dnA_at hx)))
        obtain ⟨b1, o1, eb, _, p0, p1, _⟩ := Sdn.cells (HM.out.later HC.out).done hx
        rw [eb] at c3
        obtain ⟨⟨xa, xi⟩, xc⟩ := x
        simp only at p0 p1 HAT
        have HOV := Lib.hid (fun w' (h : Below W.heap.size W w') => OV.out w' h ⟨xa, xi⟩)
        have SV2 := SV.out
        rw [eb] at HOV
        obtain ⟨orr, hor⟩ : ∃ z, oixS ⟨xa, xi⟩ 0 s.done = z := ⟨_, rfl⟩
        rw [hor] at HOV HAT
        have HOVO := HOV.out
        have HDR := Lib.hid (show Below W.heap.size W wr.drew from HC.out.drew)
        clear hx hor eb hlj SV2
        by_cases hoe : orr = some j
        · subst hoe
          have jj : ixI (some j) = (j : Int) := rfl
          rw [jj] at HOVO
          have HT := Lib.hid (show (dnA s (j + 1) (s.done.drop (j + 1)) && hoA s s.holds) = v by rw [HAT.out]; simp)
          go_wp2_with fail
          go_region_law (go_simp; go_at_call 24; (with_reducible refine (HOVO _ HDR.out).mono ?_); rintro e w5 ⟨rfl, hb5⟩; have HB5 := Lib.hid (HDR.out.trans (hb5.mono HDR.out.size)); clear hb5)
          all_goals
            clear c0 c1 c2 c3 c4 p0 p1 HOVO
            go_wp2_with fail
            go_roundw
            case rel => exact ⟨j + 1, HLJ.out, by go_num, HT.out, HB5.out⟩
            case measure => have := HLJ.out; simp [intOf]; omega
        · obtain ⟨g1, g2⟩ := ixI_ne hoe
          obtain rfl : v = false := by rw [HAT.out, decide_eq_false hoe]; rfl
          go_wp2_with fail
          go_region_law (go_simp; go_at_call 24; (with_reducible refine (HOVO _ HDR.out).mono ?_); rintro e w5 ⟨rfl, hb5⟩; have HB5 := Lib.hid (HDR.out.trans (hb5.mono HDR.out.size)); clear hb5)
          all_goals
            clear c0 c1 c2 c3 c4 p0 p1 HOVO
            go_wp2_with fail
            go_ret
            exact ⟨by first | rfl | simp, HE.out _ HB5.out⟩
    have HLT := Lib.hid hlt
    obtain ⟨x, hx⟩ : ∃ x, s.opn[k]? = some x := ⟨_, List.getElem?_eq_getElem (by rw [HNO.out]; exact hlt)⟩
    have i0 : (0 : Int) ≤ (k : Int) := by omega
    have i1 : (k : Int) < (no : Int) := by omega
    have HAT := Lib.hid (HF.out.symm.trans (congrArg (fun z => z && (dnA s 0 s.done && hoA s s.holds)) (opA_at hx)))
    obtain ⟨⟨x', pa, pc⟩, hy, hyx, hym⟩ := opn_at HM.out hx
    simp only at hyx
    subst hyx
    obtain ⟨b1, o1, eb, _, p0, p1, p2, p3, p4⟩ := Sop.cells (HM.out.later HB.out).opn hy
    rw [eb] at c2
    have hpl := PL.out _ hym
    have HFT := Lib.hid (fun w' (h : Below W.heap.size W w') => FT.out w' h _ hym)
    have HPU := Lib.hid (fun w' (h : Below W.heap.size W w') => (HM.out.later h).puts _ hym)
    have HKX := Lib.hid (fun w' (h : Below W.heap.size W w') => KN.out w' h x'.t)
    have HOV := Lib.hid (fun w' (h : Below W.heap.size W w') => OV.out w' h x'.t)
    rw [eb] at HKX HOV
    have SC := Lib.hid (fun w' (h : Below W.heap.size W w') => (show w'.cell? ⟨x1, 0, none⟩ = some (.slice A.ra s.rows.length A.rc) ∧ w'.cell? ⟨x1, 1, none⟩ = some (.slice A.ha nh A.hc) ∧ w'.cell? ⟨x1, 2, none⟩ = some (.slice (some ⟨b1, o1, none⟩) no A.oc) ∧ w'.cell? ⟨x1, 3, none⟩ = some (.slice A.da nd A.dc) ∧ w'.cell? ⟨x1, 4, none⟩ = some (.int .u64 (s.ver : Nat)) from by
      obtain ⟨_, g0, g1, g2, g3, g4⟩ := H1.out.later h
      rw [HNO.out, eb] at g2
      rw [HND.out] at g3
      rw [HNH.out] at g1
      exact ⟨g0, g1, g2, g3, g4⟩))
    obtain ⟨kr, hkr⟩ : ∃ z, kixS x'.t 0 s.opn = z := ⟨_, rfl⟩
    obtain ⟨orr, hor⟩ : ∃ z, oixS x'.t 0 s.done = z := ⟨_, rfl⟩
    have HOI := Lib.hid (show (orr = none ∧ ovrS x'.t s.done = none) ∨ ∃ j c, orr = some j ∧ ovrS x'.t s.done = some c from by
      rcases oix_is (t := x'.t) (O := s.done) with ⟨h1, h2⟩ | ⟨j, z, h1, _, h3⟩
      · exact .inl ⟨hor.symm.trans h1, h2⟩
      · exact .inr ⟨j, _, hor.symm.trans h1, h3⟩)
    rw [hkr] at HKX HAT
    rw [hor] at HOV
    obtain ⟨⟨xa, xi⟩, xf, xw, xp⟩ := x'
    unfold opOk at HAT
    simp only at p0 p1 p2 p3 p4 HAT HKX HOV HFT HPU hpl HOI
    obtain ⟨np, hnp⟩ : ∃ m, xp.length = m := ⟨_, rfl⟩
    obtain ⟨ft, hft⟩ : ∃ m, fitsX xp = m := ⟨_, rfl⟩
    rw [hnp] at p4 hpl HFT HAT
    rw [hft] at HFT HAT
    have HNP := Lib.hid hnp
    have HFX := Lib.hid hft
    obtain ⟨V, hV⟩ : ∃ V, wr.alloc (.cells #[.int .u64 (xa : Nat), .int .u64 (xi : Nat), .bool xf, .bool xw, .slice pa np pc] 50) = V := ⟨_, rfl⟩
    obtain ⟨x6, hx6⟩ : ∃ x, wr.heap.size = x := ⟨_, rfl⟩
    have hBV : Below wr.heap.size wr V := hV ▸ (Below.refl _ _).alloc (Nat.le_refl _) _
    have hso : SoB V x6 ⟨⟨⟨xa, xi⟩, xf, xw, xp⟩, pa, pc⟩ := by
      rw [← hV, ← hx6]; exact ⟨by simp, by simp [go_sem], by simp [go_sem], by simp [go_sem], by simp [go_sem], by simp [go_sem, hnp]⟩
    have HSO := Lib.hid (fun w' (h : Below V.heap.size V w') => (show w'.cell? ⟨x6, 0, none⟩ = some (.int .u64 (xa : Nat)) ∧ w'.cell? ⟨x6, 1, none⟩ = some (.int .u64 (xi : Nat)) ∧ w'.cell? ⟨x6, 2, none⟩ = some (.bool xf) ∧ w'.cell? ⟨x6, 3, none⟩ = some (.bool xw) ∧ w'.cell? ⟨x6, 4, none⟩ = some (.slice pa np pc) from by
      obtain ⟨_, g0, g1, g2, g3, g4⟩ := hso.later h
      simp only [hnp] at g4
      exact ⟨g0, g1, g2, g3, g4⟩))
    have HBV := Lib.hid (HB.out.trans (hBV.mono HB.out.size))
    have HVW := Lib.hid hV
    have HX6 := Lib.hid hx6
    clear hx hy eb hkr hor hnp hft hV hBV hso hx6 hlt c0 c1 c3 c4 hym
    go_upto_region 9 with (fail)
    rw [HVW.out, HX6.out]
    clear c2 p0 p1 p2 p3 p4
    obtain ⟨c0, c1, c2, c3, c4⟩ := SC.out _ HBV.out
    obtain ⟨d0, d1, d2, d3, d4⟩ := HSO.out _ (Below.refl _ _)
    go_wp2_with fail
    refine (HKX.out V HBV.out).mono ?_
    rintro e w5 ⟨rfl, hb5⟩
    have HV5 := Lib.hid hb5
    have HB5 := Lib.hid (HBV.out.trans (hb5.mono HBV.out.size))
    clear hb5 c0 c1 c2 c3 c4 d0 d1 d2 d3 d4
    by_cases hke : kr = some k
    case neg =>
      obtain ⟨g1, g2⟩ := ixI_ne hke
      obtain rfl : v = false := by rw [HAT.out, decide_eq_false hke]; rfl
      go_wp2_with fail
      go_ret
      exact ⟨by first | rfl | simp, HE.out _ HB5.out⟩
    subst hke
    have jj : ixI (some k) = (k : Int) := rfl
    rw [jj]
    obtain ⟨c0, c1, c2, c3, c4⟩ := SC.out _ HB5.out
    obtain ⟨d0, d1, d2, d3, d4⟩ := HSO.out _ HV5.out
    clear jj
    go_wp2_with fail
    refine (HOV.out w5 HB5.out).mono ?_
    rintro e w6 ⟨rfl, hb6⟩
    have HV6 := Lib.hid (HV5.out.trans (hb6.mono HV5.out.size))
    have HB6 := Lib.hid (HB5.out.trans (hb6.mono HB5.out.size))
    clear hb6 c0 c1 c2 c3 c4 d0 d1 d2 d3 d4
    obtain ⟨d0, d1, d2, d3, d4⟩ := HSO.out _ HV6.out
    rcases HOI.out with ⟨rfl, ho⟩ | ⟨q, qc, rfl, ho⟩
    case inr =>
      have jj : ixI (some q) = (q : Int) := rfl
      rw [jj]
      have j0 : (0 : Int) ≤ (q : Int) := by omega
      obtain rfl : v = false := by rw [HAT.out, ho]; simp
      clear ho
      go_wp2_with fail
      go_ret
      exact ⟨by first | rfl | simp, HE.out _ HB6.out⟩
    have jn : ¬ (0 : Int) ≤ ixI none := by decide
    rw [ho] at HAT
    cases xf
    case true =>
      cases xw
      case true =>
        obtain rfl : v = false := by rw [HAT.out]; simp
        go_wp2_with fail
        go_ret
        exact ⟨by first | rfl | simp, HE.out _ HB6.out⟩
      have HA2 := Lib.hid (show (decide (ft = 0) && (xp.all (fun p => hasH ⟨xa, xi⟩ p.key true s.holds) && (opA s (k + 1) (s.opn.drop (k + 1)) && (dnA s 0 s.done && hoA s s.holds)))) = v from by rw [HAT.out]; simp [Bool.and_assoc])
      clear HAT ho
      go_wp2_with fail
      refine (HFT.out w6 HB6.out).mono ?_
      rintro e w7 ⟨rfl, hb7⟩
      have HV7 := Lib.hid (HV6.out.trans (hb7.mono HV6.out.size))
      have HB7 := Lib.hid (HB6.out.trans (hb7.mono HB6.out.size))
      clear hb7 d0 d1 d2 d3 d4
      obtain ⟨d0, d1, d2, d3, d4⟩ := HSO.out _ HV7.out
      by_cases hf0 : ft = 0
      case neg =>
        obtain rfl : v = false := by rw [← HA2.out, decide_eq_false hf0]; rfl
        have g1 := int_ne hf0
        have g1' : ((ft : Int) == 0) = false := by simp; omega
        have g2 : ((ft : Int) != 0) = true := by simp; omega
        go_wp2_with fail
        go_ret
        exact ⟨by first | rfl | simp, HE.out _ HB7.out⟩
      subst hf0
      have HA3 := Lib.hid (show ((xp.drop 0).all (fun p => hasH ⟨xa, xi⟩ p.key true s.holds) && (opA s (k + 1) (s.opn.drop (k + 1)) && (dnA s 0 s.done && hoA s s.holds))) = v from by rw [← HA2.out]; rfl)
      clear HA2
      go_upto_region 11 with (fail)
      clear d0 d1 d2 d3 d4
      go_wp2_with fail
      go_loopw [7] (fun iv wx => ∃ i : Nat, i ≤ np ∧ iv = .int .i64 i ∧ ((xp.drop i).all (fun p => hasH ⟨xa, xi⟩ p.key true s.holds) && (opA s (k + 1) (s.opn.drop (k + 1)) && (dnA s 0 s.done && hoA s s.holds))) = v ∧ Below w7.heap.size w7 wx) (fun iv _ => np - (intOf iv).toNat)
      case atStart => exact ⟨0, Nat.zero_le _, rfl, HA3.out, Below.refl _ _⟩
      case round =>
        obtain ⟨i, hi, rfl, hf, hBi⟩ := hrel
        have HFI := Lib.hid hf
        have HBI := Lib.hid (HB7.out.trans (hBi.mono HB7.out.size))
        have HVI := Lib.hid (HV7.out.trans (hBi.mono HV7.out.size))
        have HWI := Lib.hid hBi
        obtain ⟨d0, d1, d2, d3, d4⟩ := HSO.out _ HVI.out
        clear hf hBi
        by_cases hli : i < np
        case neg =>
          have k1 : ¬ (i : Int) < (np : Int) := by omega
          have HT := Lib.hid (show (opA s (k + 1) (s.opn.drop (k + 1)) && (dnA s 0 s.done && hoA s s.holds)) = v from by
            have := HFI.out
            rw [List.drop_eq_nil_of_le (by rw [HNP.out]; omega)] at this
            rw [← this]; rfl)
          go_wp2_with fail
          go_roundw
          case rel => exact ⟨k + 1, HLT.out, by go_num, HT.out, HBI.out⟩
          case measure => have := HLT.out; simp [intOf]; omega
        have HLI := Lib.hid hli
        have k0 : (0 : Int) ≤ (i : Int) := by omega
        have k1 : (i : Int) < (np : Int) := by omega
        obtain ⟨x, hx⟩ : ∃ x, xp[i]? = some x := ⟨_, List.getElem?_eq_getElem (by rw [HNP.out]; exact hli)⟩
        have hdr : xp.drop i = x :: xp.drop (i + 1) := by
          obtain ⟨h1, h2⟩ := List.getElem?_eq_some_iff.1 hx
          rw [List.drop_eq_getElem_cons h1, h2]
        have HAI := Lib.hid (show (hasH ⟨xa, xi⟩ x.key true s.holds && ((xp.drop (i + 1)).all (fun p => hasH ⟨xa, xi⟩ p.key true s.holds) && (opA s (k + 1) (s.opn.drop (k + 1)) && (dnA s 0 s.done && hoA s s.holds)))) = v from by
          have := HFI.out
          rw [hdr, List.all_cons, Bool.and_assoc] at this; exact this)
        obtain ⟨b2, o2, e2, _, q0, _, _⟩ := Pus.cells (HPU.out _ HBI.out) hx
        rw [e2] at d4
        obtain ⟨_, c1, _, _, _⟩ := SC.out _ HBI.out
        have HHA := Lib.hid (fun w' (h : Below W.heap.size W w') => HA.out w' h ⟨xa, xi⟩ x.key)
        obtain ⟨hb, hhb⟩ : ∃ z, hasH ⟨xa, xi⟩ x.key true s.holds = z := ⟨_, rfl⟩
        rw [hhb] at HHA HAI
        obtain ⟨xk, xv, xg⟩ := x
        simp only at q0 HHA HAI
        have HHAO := HHA.out
        have HDR := Lib.hid (show Below W.heap.size W wr.drew from HBI.out.drew)
        have HDR7 := Lib.hid (show Below w7.heap.size w7 wr.drew from HWI.out.drew)
        clear hx hdr hhb e2 hli
        cases hb
        case false =>
          obtain rfl : v = false := by rw [← HAI.out]; rfl
          go_wp2_with fail
          go_region_law (go_simp; go_at_call 26; (with_reducible refine (HHAO _ HDR.out).mono ?_); rintro e w8 ⟨rfl, hb8⟩; have HB8 := Lib.hid (HDR.out.trans (hb8.mono HDR.out.size)); clear hb8)
          all_goals
            clear d0 d1 d2 d3 d4 q0 c1 HHAO
            go_wp2_with fail
            go_ret
            exact ⟨by first | rfl | simp, HE.out _ HB8.out⟩
        have HT := Lib.hid (show ((xp.drop (i + 1)).all (fun p => hasH ⟨xa, xi⟩ p.key true s.holds) && (opA s (k + 1) (s.opn.drop (k + 1)) && (dnA s 0 s.done && hoA s s.holds))) = v from by rw [← HAI.out]; rfl)
        go_wp2_with fail
        go_region_law (go_simp; go_at_call 26; (with_reducible refine (HHAO _ HDR.out).mono ?_); rintro e w8 ⟨rfl, hb8⟩; have HB8 := Lib.hid (HDR7.out.trans (hb8.mono HDR7.out.size)); clear hb8)
        all_goals
          clear d0 d1 d2 d3 d4 q0 c1 HHAO
          go_wp2_with fail
          go_roundw
          case rel => exact ⟨i + 1, HLI.out, by go_num, HT.out, HB8.out⟩
          case measure => have := HLI.out; simp [intOf]; omega
    case false =>
      by_cases hp0 : np = 0
      case neg =>
        have j0 : (0 : Int) < (np : Int) := by omega
        obtain rfl : v = false := by rw [HAT.out]; simp [hp0]
        go_wp2_with fail
        go_ret
        exact ⟨by first | rfl | simp, HE.out _ HB6.out⟩
      have hxp : xp = [] := List.length_eq_zero_iff.1 (by rw [HNP.out]; exact hp0)
      obtain rfl : ft = 0 := by rw [← HFX.out, hxp]; rfl
      have HT := Lib.hid (show (opA s (k + 1) (s.opn.drop (k + 1)) && (dnA s 0 s.done && hoA s s.holds)) = v from by rw [HAT.out, hxp]; simp [hp0])
      clear HAT ho hxp
      subst hp0
      cases xw
      all_goals
        go_wp2_with fail
        refine (HFT.out w6 HB6.out).mono ?_
        rintro e w7 ⟨rfl, hb7⟩
        have HV7 := Lib.hid (HV6.out.trans (hb7.mono HV6.out.size))
        have HB7 := Lib.hid (HB6.out.trans (hb7.mono HB6.out.size))
        clear hb7 d0 d1 d2 d3 d4
        go_wp2_with fail
        go_loopw [7] (fun iv wx => iv = .int .i64 0 ∧ Below w7.heap.size w7 wx) (fun _ _ => 0)
        case atStart => exact ⟨rfl, Below.refl _ _⟩
        case round =>
          obtain ⟨rfl, hBi⟩ := hrel
          have HBI := Lib.hid (HB7.out.trans (hBi.mono HB7.out.size))
          obtain ⟨d0, d1, d2, d3, d4⟩ := HSO.out _ (HV7.out.trans (hBi.mono HV7.out.size))
          clear hBi
          go_wp2_with fail
          go_roundw
          case rel => exact ⟨k + 1, HLT.out, by go_num, HT.out, HBI.out⟩
          case measure => have := HLT.out; simp [intOf]; omega
end Go.Proofs.YthgnecggdlamfaaGreat
