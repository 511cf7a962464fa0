/- The law ShardReads. -/
import Derived.Test.YthgnecggdlamfaaYv
namespace Go.Proofs.Ythgnecggdlamfaa
open Go.RowKit

set_option maxRecDepth 100000 in
set_option maxHeartbeats 8000000 in
theorem law_ShardReads {TT : World → Prop} (P : PShard TT) (n c m d : Nat) (a a2 : Option Addr) (L M : List OrM) (t : Tx) (key : ByteArray) (ht : okX t) (hkz : key.size ≤ 140737488351232) (w : World) (I : OrIn w a n c L) (J : OrIn w a2 m d M) (hT : TT w) :
    Calls Try.prog 8 #[.agg #[.slice a n c, .int .u64 (t.age : Nat), .int .u64 (t.id : Nat), .string key, .slice a2 m d]] w fun e w' => e = .returned (.bool true) ∧ Below w.heap.size w w' := by
  have HS := Lib.hid (fun w' (hb : Below w.heap.size w w') => shown_any P w' (P.below hT hb))
  have HD := Lib.hid (fun (s : Sh) (A : Sad) (o : Odr) (a : Option Addr) (c : Nat) (q : Option Addr) (qn qc : Nat) w' (hb : Below w.heap.size w w') => P.doo s A o a c q qn qc w' (P.below hT hb))
  have HI := Lib.hid I
  have HJ := Lib.hid J
  obtain ⟨ta, ti⟩ := t
  obtain ⟨W, hW⟩ : ∃ W, (w.alloc (.cells #[.slice a n c, .int .u64 (ta : Nat), .int .u64 (ti : Nat), .string key, .slice a2 m d] 61)).alloc (.cells #[.int .u64 (ta : Nat), .int .u64 (ti : Nat)] 30) = W := ⟨_, rfl⟩
  obtain ⟨x4, hx4⟩ : ∃ x, w.heap.size + 1 = x := ⟨_, rfl⟩
  obtain ⟨hB0, hX⟩ : Below w.heap.size w W ∧ TxBox W x4 ⟨ta, ti⟩ := by
    rw [← hW, ← hx4]; exact ⟨by go_grown, ⟨by simp, by simp [go_sem], by simp [go_sem]⟩⟩
  have HB0 := Lib.hid hB0
  have HTX := Lib.hid hX
  have HW := Lib.hid hW
  have HX4 := Lib.hid hx4
  have hnb : n ≤ 140737488351232 := by have := I.room; omega
  have hmb : m ≤ 140737488351232 := by have := J.room; omega
  have HFE := Lib.hid (fun w' (h : Below W.heap.size W w') => hB0.trans (h.mono hB0.size))
  clear P I J hT hB0 hX hW hx4
  go_enter Try.func8, Try.ntmps8
  go_wp2_with fail
  rw [HW.out, HX4.out]
  refine (HS.out W HB0.out).mono ?_
  rintro e w1 ⟨rfl, hb1⟩
  obtain ⟨W1, hW1⟩ : ∃ W1, w1.alloc (.cells #[.slice none 0 0, .slice none 0 0, .slice none 0 0, .slice none 0 0, .int .u64 0] 28) = W1 := ⟨_, rfl⟩
  obtain ⟨hb2, hl⟩ := LB.new (w0 := W) hb1.size hW1
  obtain ⟨x8, hx8⟩ : ∃ x, w1.heap.size = x := ⟨_, rfl⟩
  rw [hx8] at hl
  have HL0 := Lib.hid hl
  have HBL := Lib.hid (hb1.trans (hb2.mono hb1.size))
  have HW1 := Lib.hid hW1
  have HX8 := Lib.hid hx8
  clear hb1 hb2 hl hW1 hx8
  go_wp2_with fail
  rw [HW1.out, HX8.out]
  go_loopw [9] (fun iv wr => ∃ (k : Nat) (s : Sh) (A : Sad), k ≤ n ∧ iv = .int .i64 k ∧ LS s k ∧ LB W wr x8 s A ∧ Below W.heap.size W wr) (fun iv _ => n - (intOf iv).toNat)
  case atStart => exact ⟨0, nilS, nilA, Nat.zero_le _, rfl, LS.nil, HL0.out, HBL.out⟩
  case round =>
    obtain ⟨k, s, A, hk, rfl, hls, hl, hB⟩ := hrel
    have HLS := Lib.hid hls
    have HLB := Lib.hid hl
    have HB := Lib.hid hB
    clear hls hl hB
    by_cases hlt : k < n
    case pos =>
      have HLT := Lib.hid hlt
      obtain ⟨y, hy⟩ : ∃ y, L[k]? = some y := ⟨_, List.getElem?_eq_getElem (by rw [HI.out.hlen]; exact hlt)⟩
      have i0 : (0 : Int) ≤ (k : Int) := by omega
      have i1 : (k : Int) < (n : Int) := by omega
      obtain ⟨hp1, hp2, hp3, hp4⟩ := HI.out.puts y (List.mem_of_getElem? hy)
      have HPB := Lib.hid (HB0.out.trans (HB.out.mono HB0.out.size))
      obtain ⟨b, off, eb, hbl, p0, p1, p2, p3, p4, p5, p6⟩ := HI.out.cells HPB.out hy
      subst eb
      have HST := Lib.hid (HLS.out.step hp4 (by omega))
      have HDO := Lib.hid (fun (w' : World) (h : Below wr.heap.size wr w') => HD.out s A y.x y.a y.c y.qa y.qn y.qc w' (HPB.out.trans (h.mono HPB.out.size)) (HLB.out.later h).m (HLS.out.szs (by omega)) hp4 hp2 hp3 (hp1.later (HPB.out.trans (h.mono HPB.out.size))))
      obtain ⟨⟨yk, ⟨ya, yi⟩, yy, yp, yc⟩, aa, ac, qa, qn, qc⟩ := y
      simp only at p0 p1 p2 p3 p4 p5 p6 HST HDO
      obtain ⟨r, hr⟩ : ∃ r, doS s ⟨yk, ⟨ya, yi⟩, yy, yp, yc⟩ = r := ⟨_, rfl⟩
      rw [hr] at HST HDO
      obtain ⟨s', n'⟩ := r
      simp only at HST
      clear hr hy hp1 hp2 hp3 hp4
      go_wp2_with fail
      have HDO2 := HDO.out
      obtain ⟨kb, c0, c1, c2, c3, c4, mm, ll⟩ := HLB.out
      clear kb mm ll
      have HDR := Lib.hid (show Below wr.heap.size wr wr.drew from (Below.refl wr.heap.size wr).drew)
      go_region_law (go_simp; go_at_call 10; (with_reducible refine (HDO2 _ HDR.out).mono ?_); rintro e w2 ⟨A2, rfl, m2, hb2⟩; simp only at m2; have hb3 := HDR.out.trans (hb2.mono HDR.out.size); have M2 := Lib.hid m2; obtain ⟨kb, c0, c1, c2, c3, c4, mm, ll⟩ := HLB.out.later hb3; have fz := kb.fz; have HB3 := Lib.hid hb3; clear kb mm ll m2 hb2 hb3)
      all_goals
        obtain ⟨U, hU⟩ : ∃ U, set5s w2 x8 (.slice A2.ra s'.rows.length A2.rc) (.slice A2.ha s'.holds.length A2.hc) (.slice A2.oa s'.opn.length A2.oc) (.slice A2.da s'.done.length A2.dc) (.int .u64 (s'.ver : Nat)) = U := ⟨_, rfl⟩
        have HE := Lib.hid (show LB W U x8 s' A2 ∧ Below W.heap.size W U from hU ▸ (HLB.out.later HB3.out).putB M2.out (HB.out.trans (HB3.out.mono HB.out.size)))
        simp only [set5s] at hU
        rw [hU]
        clear hU c0 c1 c2 c3 c4 fz HDO2 p0 p1 p2 p3 p4 p5 p6
        go_wp2_with fail
        go_roundw
        case rel => exact ⟨k + 1, s', A2, HLT.out, by go_num, HST.out, HE.out.1, HE.out.2⟩
        case measure => have := HLT.out; simp [intOf]; omega
    have i1 : ¬ (k : Int) < (n : Int) := by omega
    have hk4 : k < 4611686018427387903 := by omega
    obtain ⟨O, hO⟩ : ∃ O : Odr, (⟨1, ⟨ta, ti⟩, key, [], false⟩ : Odr) = O := ⟨_, rfl⟩
    have hso : SzO O := hO ▸ szo_read hkz ht
    have hrt := fun h => read_told (s := s) (o := O) (by rw [← hO]) h
    have hst := HLS.out.step hso hk4
    have HDO := Lib.hid (HD.out s A O none 0 none 0 0 wr (HFE.out _ HB.out) HLB.out.m (HLS.out.szs hk4) hso (by rw [← hO]; exact Nat.le_refl _) (by decide) (by rw [← hO]; exact Rw.nil _))
    obtain ⟨r, hr⟩ : ∃ r, doS s O = r := ⟨_, rfl⟩
    rw [hr] at HDO hrt hst
    obtain ⟨u, a'⟩ := r
    subst hO
    simp only at hrt hst
    have HRT := Lib.hid hrt
    have HST := Lib.hid (hst.mono (Nat.add_le_add_right hk 1))
    obtain ⟨kb, c0, c1, c2, c3, c4, mm, ll⟩ := HLB.out
    obtain ⟨_, t0, t1⟩ := HTX.out.later HB.out
    simp only at t0 t1
    clear kb mm ll hrt hst hso hr
    go_wp2_with fail
    refine HDO.out.mono ?_
    rintro e w2 ⟨A2, rfl, m2, hb2⟩
    simp only at m2
    have HLB := Lib.hid (HLB.out.later hb2)
    have HB := Lib.hid (HB.out.trans (hb2.mono HB.out.size))
    have M2 := Lib.hid m2
    clear c0 c1 c2 c3 c4 t0 t1 HDO m2 hb2 HLS hk hlt hk4 i1
    obtain ⟨kb, c0, c1, c2, c3, c4, mm, ll⟩ := HLB.out.later ((Below.refl _ _).alloc (Nat.le_refl _) (.cells #[.int .i64 0, .string ⟨#[]⟩, .int .u64 0, .bool false, .bool false] 38))
    have fz := kb.fz
    have ne3 : ¬ x8 = w2.heap.size := by have := HLB.out.kb.lt; omega
    have ne3' : ¬ w2.heap.size = x8 := by have := HLB.out.kb.lt; omega
    clear kb mm ll
    go_upto_region 12 with (fail)
    obtain ⟨x10, hx10⟩ : ∃ z, w2.heap.size = z := ⟨_, rfl⟩
    have hst := stp a' HLB.out M2.out hx10
    have hlx := HLB.out.kb.lt
    rw [hx10] at ne3 ne3' hlx ⊢
    obtain ⟨U3, hU⟩ : ∃ U, set5s (set5s (w2.alloc (.cells #[.int .i64 0, .string ⟨#[]⟩, .int .u64 0, .bool false, .bool false] 38)) x8 (.slice A2.ra u.rows.length A2.rc) (.slice A2.ha u.holds.length A2.hc) (.slice A2.oa u.opn.length A2.oc) (.slice A2.da u.done.length A2.dc) (.int .u64 (u.ver : Nat))) x10 (.int .i64 (a'.err : Nat)) (.string a'.val) (.int .u64 (a'.ver : Nat)) (.bool a'.found) (.bool a'.cm) = U := ⟨_, rfl⟩
    have HS3 := Lib.hid (hst U3 hU.symm)
    simp only [set5s] at hU
    rw [hU]
    have HB3 := Lib.hid (HS3.out.b HB.out)
    clear hst hU c0 c1 c2 c3 c4 fz ne3 ne3'
    obtain ⟨_, a0, _, _, _, _⟩ := HS3.out.a
    by_cases he : a'.err = 0
    case neg =>
      have g1 := int_ne he
      have g2 : ((a'.err : Int) != 0) = true := by simp; omega
      have g1' : ((a'.err : Int) == 0) = false := by simp; omega
      go_wp2_with fail
      go_ret
      exact ⟨by first | rfl | simp, HFE.out _ HB3.out⟩
    obtain ⟨_, hru, hra⟩ := HRT.out he
    have a0' : U3.cell? ⟨x10, 0, none⟩ = some (.int .i64 0) := by rw [a0, he]; rfl
    obtain ⟨g, hg⟩ : ∃ g, getR key s.rows = g := ⟨_, rfl⟩
    rw [hg] at hra
    have HG0 := Lib.hid (show getR key u.rows = g by rw [hru]; exact hg)
    have HAN := Lib.hid hra
    have HL0 := Lib.hid HS3.out.l
    have HA0 := Lib.hid HS3.out.a
    clear a0 hru hra hg he HRT HLB HB M2
    go_wp2_with fail
    clear a0'
    go_loopw [11] (fun iv wr => ∃ (k : Nat) (s : Sh) (A : Sad), k ≤ m ∧ iv = .int .i64 k ∧ LS s (n + 1 + k) ∧ getR key s.rows = g ∧ LB W wr x8 s A ∧ AnB wr x10 a' ∧ Below W.heap.size W wr) (fun iv _ => m - (intOf iv).toNat)
    case atStart => exact ⟨0, u, A2, Nat.zero_le _, rfl, HST.out, HG0.out, HL0.out, HA0.out, HB3.out⟩
    case round =>
      clear HST HG0 HL0 HA0 HB3 HS3
      obtain ⟨k, s, A, hk, rfl, hls, hg, hl, ha, hB⟩ := hrel
      have HLS := Lib.hid hls
      have HGK := Lib.hid hg
      have HLB := Lib.hid hl
      have HAB := Lib.hid ha
      have HB := Lib.hid hB
      clear hls hl hB hg ha
      by_cases hlt : k < m
      case neg =>
        have i1 : ¬ (k : Int) < (m : Int) := by omega
        go_wp2_with fail
        go_ret
        exact ⟨by first | rfl | simp, HFE.out _ HB.out⟩
      have HLT := Lib.hid hlt
      obtain ⟨y, hy⟩ : ∃ y, M[k]? = some y := ⟨_, List.getElem?_eq_getElem (by rw [HJ.out.hlen]; exact hlt)⟩
      have i0 : (0 : Int) ≤ (k : Int) := by omega
      have i1 : (k : Int) < (m : Int) := by omega
      obtain ⟨hp1, hp2, hp3, hp4⟩ := HJ.out.puts y (List.mem_of_getElem? hy)
      have HPB := Lib.hid (HB0.out.trans (HB.out.mono HB0.out.size))
      obtain ⟨b, off, eb, hbl, p0, p1, p2, p3, p4, p5, p6⟩ := HJ.out.cells HPB.out hy
      subst eb
      have HST := Lib.hid (HLS.out.step hp4 (by omega))
      have HDO := Lib.hid (fun (w' : World) (h : Below wr.heap.size wr w') => HD.out s A y.x y.a y.c y.qa y.qn y.qc w' (HPB.out.trans (h.mono HPB.out.size)) (HLB.out.later h).m (HLS.out.szs (by omega)) hp4 hp2 hp3 (hp1.later (HPB.out.trans (h.mono HPB.out.size))))
      have HJC := Lib.hid (fun (w' : World) (h : Below w.heap.size w w') => HJ.out.cells h hy)
      have HRS := Lib.hid (fun (h : y.x.t ≠ ⟨ta, ti⟩) hh => read_step (key := key) HLS.out.ok (by have := HLS.out.ver; omega) h hh)
      obtain ⟨⟨yk, ⟨ya, yi⟩, yy, yp, yc⟩, aa, ac, qa, qn, qc⟩ := y
      simp only at p0 p1 p2 p3 p4 p5 p6 HST HDO HRS HJC
      obtain ⟨r, hr⟩ : ∃ r, doS s ⟨yk, ⟨ya, yi⟩, yy, yp, yc⟩ = r := ⟨_, rfl⟩
      rw [hr] at HST HDO HRS
      obtain ⟨s', n'⟩ := r
      simp only at HST HRS
      clear hr hy hp1 hp2 hp3 hp4
      obtain ⟨_, t0, t1⟩ := HTX.out.later HB.out
      simp only at t0 t1
      by_cases hcn : (⟨ya, yi⟩ : Tx) = ⟨ta, ti⟩
      case pos =>
        cases hcn
        go_wp2_with fail
        go_quiet (fail)
        go_wp2_with fail
        go_roundw
        case rel => exact ⟨k + 1, s, A, HLT.out, by go_num, HLS.out.mono (by omega), HGK.out, HLB.out.later (below_drewN (Below.refl _ _) _), HAB.out.later (below_drewN (Below.refl _ _) _), below_drewN HB.out _⟩
        case measure => have := HLT.out; simp [intOf]; omega
      have HRS2 := Lib.hid (HRS.out hcn)
      have HCASE := tx_ne hcn
      clear hcn HRS
      go_upto_region 17 with (fail)
      go_cut [64] (fun bv wx => bv = .bool false ∧ ∃ q, wx = wr.drewN q)
      case first =>
        rcases HCASE with g | ⟨rfl, g⟩
        all_goals
          go_wp2_with fail
          go_quiet (fail)
          go_wp2_with fail
          go_meet
          exact ⟨by first | rfl | simp, _, rfl⟩
      case rest =>
        obtain ⟨rfl, q, hq⟩ := hcut
        have HDQ := Lib.hid (show Below wr.heap.size wr wc from hq ▸ below_drewN (Below.refl _ _) _)
        clear hq p0 p1 p2 p3 p4 p5 p6 t0 t1 HCASE
        obtain ⟨b3, o3, e3, _, p0, p1, p2, p3, p4, p5, p6⟩ := HJC.out _ (HPB.out.trans (HDQ.out.mono HPB.out.size))
        cases e3
        go_upto_region 18 with (fail)
        have HDO2 := HDO.out
        obtain ⟨kb, c0, c1, c2, c3, c4, mm, ll⟩ := HLB.out.later HDQ.out
        clear kb mm ll
        have HDR := Lib.hid (show Below wr.heap.size wr wc.drew from (HDQ.out).drew)
        go_region_law (go_simp; go_at_call 10; (with_reducible refine (HDO2 _ HDR.out).mono ?_); rintro e w2 ⟨A2, rfl, m2, hb2⟩; simp only at m2; have hb3 := HDR.out.trans (hb2.mono HDR.out.size); have M2 := Lib.hid m2; obtain ⟨kb, c0, c1, c2, c3, c4, mm, ll⟩ := HLB.out.later hb3; have fz := kb.fz; have HB3 := Lib.hid hb3; clear kb mm ll m2 hb2 hb3)
        all_goals
          obtain ⟨U, hU⟩ : ∃ U, set5s w2 x8 (.slice A2.ra s'.rows.length A2.rc) (.slice A2.ha s'.holds.length A2.hc) (.slice A2.oa s'.opn.length A2.oc) (.slice A2.da s'.done.length A2.dc) (.int .u64 (s'.ver : Nat)) = U := ⟨_, rfl⟩
          have HE := Lib.hid (show LB W U x8 s' A2 ∧ Below W.heap.size W U from hU ▸ (HLB.out.later HB3.out).putB M2.out (HB.out.trans (HB3.out.mono HB.out.size)))
          simp only [set5s] at hU
          have HA5 := Lib.hid (show AnB U x10 a' from hU ▸ (HAB.out.later HB3.out).far5 (by omega) _ _ _ _ _)
          rw [hU]
          clear hU c0 c1 c2 c3 c4 fz HDO2 p0 p1 p2 p3 p4 p5 p6
          obtain ⟨kb, c0, c1, c2, c3, c4, mm, ll⟩ := HE.out.1
          obtain ⟨_, t0, t1⟩ := HTX.out.later HE.out.2
          simp only at t0 t1
          have hhl : s'.holds.length ≤ 140737488351232 := by have := HST.out.sz.hlen; omega
          have hrl : s'.rows.length ≤ 140737488351232 := by have := (HST.out.szs (by omega)).rlen; omega
          have HHM := Lib.hid (rHas_any s'.holds.length A2.hc A2.ha s'.holds ⟨ta, ti⟩ key false rfl hhl U mm.holds)
          obtain ⟨hh, hhh⟩ : ∃ z, hasH ⟨ta, ti⟩ key false s'.holds = z := ⟨_, rfl⟩
          rw [hhh] at HHM
          have HRS3 := Lib.hid (fun (h : hh = true) => HRS2.out (hhh.trans h))
          clear kb mm ll hhh
          go_wp2_with fail
          refine HHM.out.mono ?_
          rintro e w5 ⟨rfl, hb5⟩
          have HB5 := Lib.hid (HE.out.2.trans (hb5.mono HE.out.2.size))
          have HL5 := Lib.hid (HE.out.1.later hb5)
          have HA6 := Lib.hid (HA5.out.later hb5)
          clear hb5 c0 c1 c2 c3 c4 t0 t1
          cases hh
          case false =>
            go_wp2_with fail
            go_ret
            exact ⟨by first | rfl | simp, HFE.out _ HB5.out⟩
          have HG5 := Lib.hid ((HRS3.out rfl).trans HGK.out)
          have HGT := Lib.hid (rGet_any key s'.rows.length A2.rc A2.ra s'.rows rfl hrl w5 HL5.out.m.rows)
          rw [HG5.out] at HGT
          obtain ⟨rz, hrz⟩ : ∃ z, g.getD z0 = z := ⟨_, rfl⟩
          obtain ⟨gs, hgs⟩ : ∃ z, g.isSome = z := ⟨_, rfl⟩
          rw [hrz, hgs] at HGT
          have HCS := Lib.hid (show (gs = false ∧ a'.found = false) ∨ (gs = true ∧ a'.found = true ∧ a'.val = rz.val ∧ a'.ver = rz.ver) from by
            have h1 := HAN.out
            cases g with
            | none => exact .inl ⟨hgs.symm, by rw [h1]⟩
            | some x => exact .inr ⟨hgs.symm, by rw [h1], by rw [h1, ← hrz]; rfl, by rw [h1, ← hrz]; rfl⟩)
          obtain ⟨kb, c0, c1, c2, c3, c4, mm, ll⟩ := HL5.out
          clear kb mm ll hrz hgs
          go_wp2_with fail
          refine HGT.out.mono ?_
          rintro e w6 ⟨rfl, hb6⟩
          have HB6 := Lib.hid (HB5.out.trans (hb6.mono HB5.out.size))
          have HL6 := Lib.hid (HL5.out.later hb6)
          have HA7 := Lib.hid (HA6.out.later hb6)
          clear hb6 c0 c1 c2 c3 c4
          obtain ⟨rk, rv, rn⟩ := rz
          have hba : Below w6.heap.size w6 (w6.alloc (.cells #[.string rk, .string rv, .int .u64 (rn : Nat)] 50)) := (Below.refl _ _).alloc (Nat.le_refl _) _
          have HL7 := Lib.hid (HL6.out.later hba)
          have HA8 := Lib.hid (HA7.out.later hba)
          have HB7 := Lib.hid (HB6.out.trans (hba.mono HB6.out.size))
          obtain ⟨_, q0, q1, q2, q3, q4⟩ := HA8.out
          simp only at HCS
          clear hba
          rcases HCS.out with ⟨rfl, hf⟩ | ⟨rfl, hf, hv, hn⟩
          · rw [hf] at q3
            go_wp2_with fail
            go_roundw
            case rel => exact ⟨k + 1, s', A2, HLT.out, by go_num, HST.out, HG5.out, HL7.out, HA8.out, HB7.out⟩
            case measure => have := HLT.out; simp [intOf]; omega
          · rw [hf] at q3
            rw [hv] at q1
            rw [hn] at q2
            go_wp2_with fail
            go_roundw
            case rel => exact ⟨k + 1, s', A2, HLT.out, by go_num, HST.out, HG5.out, HL7.out, HA8.out, HB7.out⟩
            case measure => have := HLT.out; simp [intOf]; omega
end Go.Proofs.Ythgnecggdlamfaa
