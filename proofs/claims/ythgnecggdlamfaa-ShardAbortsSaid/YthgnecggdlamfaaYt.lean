/- The law ShardAborts. -/
import Derived.Test.YthgnecggdlamfaaYq
import Derived.Test.YthgnecggdlamfaaYs
import Derived.Deep.RegionLaw
namespace Go.Proofs.Ythgnecggdlamfaa
open Go.RowKit

set_option maxRecDepth 100000 in
set_option maxHeartbeats 4000000 in
theorem law_ShardAborts {TT : World → Prop} (P : PShard TT) (n c : Nat) (a : Option Addr) (L : List OrM) (t : Tx) (key : ByteArray) (ht : okX t) (_ : key.size ≤ 140737488351232) (w : World) (I : OrIn w a n c L) (hT : TT w) :
    Calls Try.prog 7 #[.slice a n c, txV t, .string key] w fun e w' => e = .returned (.bool true) ∧ Below w.heap.size w w' := by
  have HS := Lib.hid (fun w' (hb : Below w.heap.size w w') => shown_any P w' (P.below hT hb))
  have HD := Lib.hid (fun (s : Sh) (A : Sad) (o : Odr) (a : Option Addr) (c : Nat) (q : Option Addr) (qn qc : Nat) w' (hb : Below w.heap.size w w') => P.doo s A o a c q qn qc w' (P.below hT hb))
  have HI := Lib.hid I
  obtain ⟨ta, ti⟩ := t
  obtain ⟨W, hW⟩ : ∃ W, w.alloc (.cells #[.int .u64 (ta : Nat), .int .u64 (ti : Nat)] 30) = W := ⟨_, rfl⟩
  obtain ⟨hB0, hX⟩ := txbox hW
  obtain ⟨x4, hx4⟩ : ∃ x, w.heap.size = x := ⟨_, rfl⟩
  rw [hx4] at hX
  have HB0 := Lib.hid hB0
  have HTX := Lib.hid hX
  have HW := Lib.hid hW
  have HX4 := Lib.hid hx4
  have hnb : n ≤ 140737488351232 := by have := I.room; omega
  clear P I hT hB0 hX hW hx4
  go_enter Try.func7, Try.ntmps7
  go_wp2_with fail
  rw [HW.out, HX4.out]
  refine (HS.out W HB0.out).mono ?_
  rintro e w1 ⟨rfl, hb1⟩
  obtain ⟨W1, hW1⟩ : ∃ W1, w1.alloc (.cells #[.slice none 0 0, .slice none 0 0, .slice none 0 0, .slice none 0 0, .int .u64 0] 28) = W1 := ⟨_, rfl⟩
  obtain ⟨hb2, hl⟩ := LB.new (w0 := W) hb1.size hW1
  obtain ⟨x8, hx8⟩ : ∃ x, w1.heap.size = x := ⟨_, rfl⟩
  rw [hx8] at hl
  have HL0 := Lib.hid hl
  have HBL := Lib.hid (hb1.trans (hb2.mono hb1.size))
  have HW1 := Lib.hid hW1
  have HX8 := Lib.hid hx8
  clear hb1 hb2 hl hW1 hx8
  go_wp2_with fail
  rw [HW1.out, HX8.out]
  go_loopw [9] (fun iv wr => ∃ (k : Nat) (s : Sh) (A : Sad), k ≤ n ∧ iv = .int .i64 k ∧ LS s k ∧ LB W wr x8 s A ∧ Below W.heap.size W wr) (fun iv _ => n - (intOf iv).toNat)
  case atStart => exact ⟨0, nilS, nilA, Nat.zero_le _, rfl, LS.nil, HL0.out, HBL.out⟩
  case round =>
    obtain ⟨k, s, A, hk, rfl, hls, hl, hB⟩ := hrel
    have HLS := Lib.hid hls
    have HLB := Lib.hid hl
    have HB := Lib.hid hB
    clear hls hl hB
    by_cases hlt : k < n
    case pos =>
      have HLT := Lib.hid hlt
      obtain ⟨y, hy⟩ : ∃ y, L[k]? = some y := ⟨_, List.getElem?_eq_getElem (by rw [HI.out.hlen]; exact hlt)⟩
      have i0 : (0 : Int) ≤ (k : Int) := by omega
      have i1 : (k : Int) < (n : Int) := by omega
      obtain ⟨hp1, hp2, hp3, hp4⟩ := HI.out.puts y (List.mem_of_getElem? hy)
      have HPB := Lib.hid (HB0.out.trans (HB.out.mono HB0.out.size))
      obtain ⟨b, off, rfl, hbl, p0, p1, p2, p3, p4, p5, p6⟩ := HI.out.cells HPB.out hy
      have hkb := HI.out.room
      have HST := Lib.hid (HLS.out.step hp4 (by omega))
      have HDO := Lib.hid (fun (w' : World) (h : Below wr.heap.size wr w') => HD.out s A y.x y.a y.c y.qa y.qn y.qc w' (HPB.out.trans (h.mono HPB.out.size)) (HLB.out.later h).m (HLS.out.szs (by omega)) hp4 hp2 hp3 (hp1.later (HPB.out.trans (h.mono HPB.out.size))))
      obtain ⟨⟨yk, ⟨ya, yi⟩, yy, yp, yc⟩, aa, ac, qa, qn, qc⟩ := y
      simp only at p0 p1 p2 p3 p4 p5 p6 HST HDO
      obtain ⟨r, hr⟩ : ∃ r, doS s ⟨yk, ⟨ya, yi⟩, yy, yp, yc⟩ = r := ⟨_, rfl⟩
      rw [hr] at HST HDO
      obtain ⟨s', n'⟩ := r
      obtain ⟨kb, c0, c1, c2, c3, c4, mm, ll⟩ := HLB.out
      clear hr hy hp1 hp2 hp3 hp4 kb mm ll hkb
      go_wp2_with fail
      have HDO2 := HDO.out
      have HDR := Lib.hid (show Below wr.heap.size wr wr.drew from (Below.refl wr.heap.size wr).drew)
      go_region_law (go_simp; go_at_call 10; (with_reducible refine (HDO2 _ HDR.out).mono ?_); rintro e w2 ⟨A2, rfl, m2, hb2⟩; simp only at m2; have hb3 := HDR.out.trans (hb2.mono HDR.out.size); have M2 := Lib.hid m2; obtain ⟨kb, c0, c1, c2, c3, c4, mm, ll⟩ := HLB.out.later hb3; have fz := kb.fz; have HB3 := Lib.hid hb3; clear kb mm ll m2 hb2 hb3)
      all_goals
        have HE := Lib.hid (And.intro ((HLB.out.later HB3.out).putB M2.out (HB.out.trans (HB3.out.mono HB.out.size))) HST.out)
        clear c0 c1 c2 c3 c4 fz HDO2 p0 p1 p2 p3 p4 p5 p6
        go_wp2_with fail
        go_roundw
        case rel => exact ⟨k + 1, s', A2, HLT.out, by go_num, HE.out.2, HE.out.1.1, HE.out.1.2⟩
        case measure => have := HLT.out; simp [intOf]; omega
    have i1 : ¬ (k : Int) < (n : Int) := by omega
    obtain ⟨O, hO⟩ : ∃ O : Odr, (⟨4, ⟨ta, ti⟩, ⟨#[]⟩, [], false⟩ : Odr) = O := ⟨_, rfl⟩
    have hso : SzO O := hO ▸ szo_fin ht false
    have hk4 : k < 4611686018427387903 := by omega
    obtain ⟨hab1, hab2⟩ := abort_none (o := O) HLS.out.ok (by rw [← hO]) (by rw [← hO])
    have hst := HLS.out.step hso hk4
    have HDO := Lib.hid (HD.out s A O none 0 none 0 0 wr (HB0.out.trans (HB.out.mono HB0.out.size)) HLB.out.m (HLS.out.szs hk4) hso (by rw [← hO]; exact Nat.le_refl _) (by decide) (by rw [← hO]; exact Rw.nil _))
    obtain ⟨r, hr⟩ : ∃ r, doS s O = r := ⟨_, rfl⟩
    rw [hr] at HDO hab1 hab2 hst
    obtain ⟨u, a'⟩ := r
    subst hO
    simp only at hab1 hab2 hst
    have HA1 := Lib.hid hab1
    have HA2 := Lib.hid hab2
    have HST := Lib.hid hst
    have ZS := Lib.hid (HLS.out.szs hk4)
    have ZU := Lib.hid (hst.szs (by omega))
    obtain ⟨kb, c0, c1, c2, c3, c4, mm, ll⟩ := HLB.out
    obtain ⟨_, t0, t1⟩ := HTX.out.later HB.out
    simp only at t0 t1
    clear kb mm ll hab1 hab2 hst hso hr
    go_wp2_with fail
    refine HDO.out.mono ?_
    rintro e w2 ⟨A2, rfl, m2, hb2⟩
    simp only at m2
    obtain ⟨x10, hx10⟩ : ∃ x, w2.heap.size = x := ⟨_, rfl⟩
    obtain ⟨V1, hV1⟩ : ∃ V, w2.alloc (.cells #[.slice A2.ra u.rows.length A2.rc, .slice A2.ha u.holds.length A2.hc, .slice A2.oa u.opn.length A2.oc, .slice A2.da u.done.length A2.dc, .int .u64 (u.ver : Nat)] 28) = V := ⟨_, rfl⟩
    obtain ⟨V2, hV2⟩ : ∃ V, V1.alloc (.cells #[.int .i64 (a'.err : Nat), .string a'.val, .int .u64 (a'.ver : Nat), .bool a'.found, .bool a'.cm] 38) = V := ⟨_, rfl⟩
    have hB2 := HB.out.trans (hb2.mono HB.out.size)
    obtain ⟨g1, L1⟩ := LB.mk' (w0 := W) m2 hB2.size hV1
    obtain ⟨g2, A4⟩ := AnB.new a' hV2
    have z1 : V1.heap.size = x10 + 1 := by rw [← hV1, ← hx10]; simp
    rw [hx10] at L1
    rw [z1] at A4
    have hB3 := hB2.trans (g1.mono hB2.size)
    have LU := Lib.hid (L1.later g2)
    have LSS := Lib.hid (((HLB.out.later hb2).later g1).later g2)
    have AA := Lib.hid A4
    have HB3 := Lib.hid (hB3.trans (g2.mono hB3.size))
    have HV := Lib.hid (show (w2.alloc (.cells #[.slice A2.ra u.rows.length A2.rc, .slice A2.ha u.holds.length A2.hc, .slice A2.oa u.opn.length A2.oc, .slice A2.da u.done.length A2.dc, .int .u64 (u.ver : Nat)] 28)).alloc (.cells #[.int .i64 (a'.err : Nat), .string a'.val, .int .u64 (a'.ver : Nat), .bool a'.found, .bool a'.cm] 38) = V2 by rw [hV1, hV2])
    have HX10 := Lib.hid hx10
    have TT2 := Lib.hid (HTX.out.later HB3.out)
    have HFE := Lib.hid (fun w' (h : Below W.heap.size W w') => HB0.out.trans (h.mono HB0.out.size))
    clear hV1 hV2 z1 g1 g2 L1 A4 hB2 hB3 hb2 m2 hx10 c0 c1 c2 c3 c4 t0 t1 HDO
    go_upto_region 8 with (fail)
    rw [HV.out, HX10.out]
    obtain ⟨_, c0, c1, c2, c3, c4, _, _⟩ := LSS.out
    obtain ⟨_, d0, d1, d2, d3, d4, _, _⟩ := LU.out
    obtain ⟨_, a0, _, _, _, a4⟩ := AA.out
    by_cases he : a'.err = 0
    case neg =>
      have g1 := int_ne he
      have g2 : ((a'.err : Int) != 0) = true := by simp; omega
      have g1' : ((a'.err : Int) == 0) = false := by simp; omega
      have HSM := Lib.hid (rSameS_any s A u A2 V2 LSS.out.m ZS.out LU.out.m ZU.out)
      rw [HA1.out he, samS_refl] at HSM
      rw [HA1.out he] at d0 d1 d2 d3 d4
      go_wp2_with fail
      refine HSM.out.mono ?_
      rintro e w5 ⟨rfl, hb5⟩
      have HB5 := Lib.hid (HB3.out.trans (hb5.mono HB3.out.size))
      clear hb5
      go_wp2_with fail
      go_ret
      exact ⟨by first | rfl | simp, HFE.out _ HB5.out⟩
    obtain ⟨hrows, hver, hhas, hopn⟩ := HA2.out he
    have a0' : V2.cell? ⟨x10 + 1, 0, none⟩ = some (.int .i64 0) := by rw [a0, he]; rfl
    rw [hrows] at d0
    rw [hver] at d4
    have zl := ZS.out.rlen
    have zu := ZU.out.hlen
    have zo := ZU.out.olen
    have HSR := Lib.hid (rSameRo_any s.rows.length A.rc s.rows.length A2.rc A.ra A2.ra s.rows s.rows rfl (by omega) rfl (by omega) V2 LSS.out.m.rows (by have := LU.out.m.rows; rw [hrows] at this; exact this))
    rw [samL_refl (fun x => by simp [samRo])] at HSR
    have HHS := Lib.hid (fun w' (h : Below V2.heap.size V2 w') => rHas_any u.holds.length A2.hc A2.ha u.holds ⟨ta, ti⟩ key false rfl (by omega) w' (LU.out.m.later h).holds)
    rw [hhas key] at HHS
    have HOP := Lib.hid hopn
    have HVER := Lib.hid hver
    clear a0 hrows hver hhas hopn he
    go_wp2_with fail
    refine HSR.out.mono ?_
    rintro e w5 ⟨rfl, hb5⟩
    have HB5 := Lib.hid hb5
    clear hb5 c0 c1 c2 c3 c4 d0 d1 d2 d3 d4 a0' a4
    obtain ⟨_, c0, c1, c2, c3, c4, _, _⟩ := LSS.out.later HB5.out
    obtain ⟨_, d0, d1, d2, d3, d4, _, _⟩ := LU.out.later HB5.out
    obtain ⟨_, t0, t1⟩ := TT2.out.later HB5.out
    simp only at t0 t1
    go_wp2_with fail
    refine (HHS.out w5 HB5.out).mono ?_
    rintro e w6 ⟨rfl, hb6⟩
    have HB6 := Lib.hid (HB5.out.trans (hb6.mono HB5.out.size))
    clear hb6 c0 c1 c2 c3 c4 d0 d1 d2 d3 d4 t0 t1
    obtain ⟨_, c0, c1, c2, c3, c4, _, _⟩ := LSS.out.later HB6.out
    obtain ⟨_, d0, d1, d2, d3, d4, _, _⟩ := LU.out.later HB6.out
    rw [HVER.out] at d4
    have hnu : u.opn.length ≤ 140737488351232 := by omega
    have F1 := Lib.hid (fun w' (h : Below w6.heap.size w6 w') => ((LU.out.later HB6.out).later h).c2)
    have F2 := Lib.hid (fun w' (h : Below w6.heap.size w6 w') => (TT2.out.later HB6.out).later h)
    have F3 := Lib.hid (fun w' (h : Below w6.heap.size w6 w') => ((LU.out.later HB6.out).later h).m)
    have HB7 := Lib.hid (fun w' (h : Below w6.heap.size w6 w') => HFE.out _ ((HB3.out.trans (HB6.out.mono HB3.out.size)).trans (h.mono (HB3.out.trans (HB6.out.mono HB3.out.size)).size)))
    clear zl zu zo i1
    go_upto_region 15 with (fail)
    clear c0 c1 c2 c3 c4 d0 d1 d2 d3 d4
    obtain ⟨nu, hnue⟩ : ∃ m, u.opn.length = m := ⟨_, rfl⟩
    rw [hnue] at F1 hnu
    have HNU := Lib.hid hnue
    clear hnue
    go_wp2_with fail
    go_loopw [15] (fun iv wx => ∃ j : Nat, j ≤ nu ∧ iv = .int .i64 j ∧ Below w6.heap.size w6 wx) (fun iv _ => nu - (intOf iv).toNat)
    case atStart => exact ⟨0, Nat.zero_le _, rfl, Below.refl _ _⟩
    case round =>
      obtain ⟨j, hj, rfl, hBj⟩ := hrel
      have HBJ := Lib.hid hBj
      have f1 := F1.out _ hBj
      obtain ⟨_, t0, t1⟩ := F2.out _ hBj
      simp only at t0 t1
      by_cases hjl : j < nu
      case neg =>
        have j1 : ¬ (j : Int) < (nu : Int) := by omega
        clear hBj
        go_wp2_with fail
        go_ret
        exact ⟨by first | rfl | simp, HB7.out _ HBJ.out⟩
      have j0 : (0 : Int) ≤ (j : Int) := by omega
      have j1 : (j : Int) < (nu : Int) := by omega
      obtain ⟨x, hx⟩ : ∃ x, u.opn[j]? = some x := ⟨_, List.getElem?_eq_getElem (by rw [HNU.out]; exact hjl)⟩
      obtain ⟨y, hy, hyx, _⟩ := opn_at (F3.out _ hBj) hx
      have hne : x.t ≠ ⟨ta, ti⟩ := HOP.out x (List.mem_of_getElem? hx)
      obtain ⟨b1, o1, e1, _, p0, p1, _, _, _⟩ := Sop.cells (F3.out _ hBj).opn hy
      rw [hyx] at p0 p1
      rw [e1] at f1
      obtain ⟨⟨xa, xi⟩, xf, xw, xp⟩ := x
      simp only at p0 p1 hne
      clear hx hy hyx hBj e1
      rcases tx_ne hne with g | ⟨rfl, g⟩
      all_goals
        go_wp2_with fail
        go_quiet (fail)
        go_wp2_with fail
        go_roundw
        case rel => exact ⟨j + 1, by omega, by go_num, below_drewN HBJ.out _⟩
        case measure => simp [intOf]; omega
end Go.Proofs.Ythgnecggdlamfaa
