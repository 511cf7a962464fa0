/- The law ShardFirm. -/
import Derived.Test.YthgnecggdlamfaaYq
import Derived.Test.YthgnecggdlamfaaYs
import Derived.Test.YthgnecggdlamfaaYr
import Derived.Deep.RegionLaw
namespace Go.Proofs.Ythgnecggdlamfaa
open Go.RowKit

/-- A new box for a row, behind a call. -/
theorem rowbox {w w5 : World} (hb : Below (w.alloc (.cells #[.string ⟨#[]⟩, .string ⟨#[]⟩, .int .u64 0] 50)).drew.heap.size (w.alloc (.cells #[.string ⟨#[]⟩, .string ⟨#[]⟩, .int .u64 0] 50)).drew w5) :
    w5.cell? ⟨w.heap.size, 0, none⟩ = some (.string ⟨#[]⟩) ∧ w5.cell? ⟨w.heap.size, 1, none⟩ = some (.string ⟨#[]⟩) ∧ w5.cell? ⟨w.heap.size, 2, none⟩ = some (.int .u64 0) ∧ ∀ j, w5.frozen? ⟨w.heap.size, j, none⟩ = false := by
  have hl : w.heap.size < (w.alloc (.cells #[.string ⟨#[]⟩, .string ⟨#[]⟩, .int .u64 0] 50)).drew.heap.size := by simp [World.drew]
  refine ⟨(hb.cell (p := ⟨w.heap.size, 0, none⟩) hl).trans ?_, (hb.cell (p := ⟨w.heap.size, 1, none⟩) hl).trans ?_, (hb.cell (p := ⟨w.heap.size, 2, none⟩) hl).trans ?_, fun j => (hb.frozen (p := ⟨w.heap.size, j, none⟩) hl).trans ?_⟩
  · simp [go_sem]
  · simp [go_sem]
  · simp [go_sem]
  · simp [go_sem]
set_option maxRecDepth 100000 in
set_option maxHeartbeats 8000000 in
theorem law_ShardFirm {TT : World → Prop} (P : PShard TT) (n c m d : Nat) (a a2 : Option Addr) (L M : List OrM) (t : Tx) (ht : okX t) (w : World) (I : OrIn w a n c L) (J : OrIn w a2 m d M) (hT : TT w) :
    Calls Try.prog 5 #[.slice a n c, txV t, .slice a2 m d] w fun e w' => e = .returned (.bool true) ∧ Below w.heap.size w w' := by
  have HS := Lib.hid (fun w' (hb : Below w.heap.size w w') => shown_any P w' (P.below hT hb))
  have HD := Lib.hid (fun (s : Sh) (A : Sad) (o : Odr) (a : Option Addr) (c : Nat) (q : Option Addr) (qn qc : Nat) w' (hb : Below w.heap.size w w') => P.doo s A o a c q qn qc w' (P.below hT hb))
  have HI := Lib.hid I
  have HJ := Lib.hid J
  obtain ⟨ta, ti⟩ := t
  obtain ⟨W, hW⟩ : ∃ W, w.alloc (.cells #[.int .u64 (ta : Nat), .int .u64 (ti : Nat)] 30) = W := ⟨_, rfl⟩
  obtain ⟨hB0, hX⟩ := txbox hW
  obtain ⟨x4, hx4⟩ : ∃ x, w.heap.size = x := ⟨_, rfl⟩
  rw [hx4] at hX
  have HB0 := Lib.hid hB0
  have HTX := Lib.hid hX
  have HW := Lib.hid hW
  have HX4 := Lib.hid hx4
  have hnb : n ≤ 140737488351232 := by have := I.room; omega
  have hmb : m ≤ 140737488351232 := by have := J.room; omega
  have HFE := Lib.hid (fun w' (h : Below W.heap.size W w') => hB0.trans (h.mono hB0.size))
  clear P I J hT hB0 hX hW hx4
  go_enter Try.func5, Try.ntmps5
  go_wp2_with fail
  rw [HW.out, HX4.out]
  refine (HS.out W HB0.out).mono ?_
  rintro e w1 ⟨rfl, hb1⟩
  obtain ⟨W1, hW1⟩ : ∃ W1, w1.alloc (.cells #[.slice none 0 0, .slice none 0 0, .slice none 0 0, .slice none 0 0, .int .u64 0] 28) = W1 := ⟨_, rfl⟩
  obtain ⟨hb2, hl⟩ := LB.new (w0 := W) hb1.size hW1
  obtain ⟨x8, hx8⟩ : ∃ x, w1.heap.size = x := ⟨_, rfl⟩
  rw [hx8] at hl
  have HL0 := Lib.hid hl
  have HBL := Lib.hid (hb1.trans (hb2.mono hb1.size))
  have HW1 := Lib.hid hW1
  have HX8 := Lib.hid hx8
  clear hb1 hb2 hl hW1 hx8
  go_wp2_with fail
  rw [HW1.out, HX8.out]
  go_loopw [9] (fun iv wr => ∃ (k : Nat) (s : Sh) (A : Sad), k ≤ n ∧ iv = .int .i64 k ∧ LS s k ∧ LB W wr x8 s A ∧ Below W.heap.size W wr) (fun iv _ => n - (intOf iv).toNat)
  case atStart => exact ⟨0, nilS, nilA, Nat.zero_le _, rfl, LS.nil, HL0.out, HBL.out⟩
  case round =>
    obtain ⟨k, s, A, hk, rfl, hls, hl, hB⟩ := hrel
    have HLS := Lib.hid hls
    have HLB := Lib.hid hl
    have HB := Lib.hid hB
    clear hls hl hB
    by_cases hlt : k < n
    case pos =>
      have HLT := Lib.hid hlt
      obtain ⟨y, hy⟩ : ∃ y, L[k]? = some y := ⟨_, List.getElem?_eq_getElem (by rw [HI.out.hlen]; exact hlt)⟩
      have i0 : (0 : Int) ≤ (k : Int) := by omega
      have i1 : (k : Int) < (n : Int) := by omega
      obtain ⟨hp1, hp2, hp3, hp4⟩ := HI.out.puts y (List.mem_of_getElem? hy)
      have HPB := Lib.hid (HB0.out.trans (HB.out.mono HB0.out.size))
      obtain ⟨b, off, eb, hbl, p0, p1, p2, p3, p4, p5, p6⟩ := HI.out.cells HPB.out hy
      subst eb
      have HST := Lib.hid (HLS.out.step hp4 (by omega))
      have HDO := Lib.hid (fun (w' : World) (h : Below wr.heap.size wr w') => HD.out s A y.x y.a y.c y.qa y.qn y.qc w' (HPB.out.trans (h.mono HPB.out.size)) (HLB.out.later h).m (HLS.out.szs (by omega)) hp4 hp2 hp3 (hp1.later (HPB.out.trans (h.mono HPB.out.size))))
      obtain ⟨⟨yk, ⟨ya, yi⟩, yy, yp, yc⟩, aa, ac, qa, qn, qc⟩ := y
      simp only at p0 p1 p2 p3 p4 p5 p6 HST HDO
      obtain ⟨r, hr⟩ : ∃ r, doS s ⟨yk, ⟨ya, yi⟩, yy, yp, yc⟩ = r := ⟨_, rfl⟩
      rw [hr] at HST HDO
      obtain ⟨s', n'⟩ := r
      simp only at HST
      clear hr hy hp1 hp2 hp3 hp4
      go_wp2_with fail
      have HDO2 := HDO.out
      obtain ⟨kb, c0, c1, c2, c3, c4, mm, ll⟩ := HLB.out
      clear kb mm ll
      have HDR := Lib.hid (show Below wr.heap.size wr wr.drew from (Below.refl wr.heap.size wr).drew)
      go_region_law (go_simp; go_at_call 10; (with_reducible refine (HDO2 _ HDR.out).mono ?_); rintro e w2 ⟨A2, rfl, m2, hb2⟩; simp only at m2; have hb3 := HDR.out.trans (hb2.mono HDR.out.size); have M2 := Lib.hid m2; obtain ⟨kb, c0, c1, c2, c3, c4, mm, ll⟩ := HLB.out.later hb3; have fz := kb.fz; have HB3 := Lib.hid hb3; clear kb mm ll m2 hb2 hb3)
      all_goals
        obtain ⟨U, hU⟩ : ∃ U, set5s w2 x8 (.slice A2.ra s'.rows.length A2.rc) (.slice A2.ha s'.holds.length A2.hc) (.slice A2.oa s'.opn.length A2.oc) (.slice A2.da s'.done.length A2.dc) (.int .u64 (s'.ver : Nat)) = U := ⟨_, rfl⟩
        have HE := Lib.hid (show LB W U x8 s' A2 ∧ Below W.heap.size W U from hU ▸ (HLB.out.later HB3.out).putB M2.out (HB.out.trans (HB3.out.mono HB.out.size)))
        simp only [set5s] at hU
        rw [hU]
        clear hU c0 c1 c2 c3 c4 fz HDO2 p0 p1 p2 p3 p4 p5 p6
        go_wp2_with fail
        go_roundw
        case rel => exact ⟨k + 1, s', A2, HLT.out, by go_num, HST.out, HE.out.1, HE.out.2⟩
        case measure => have := HLT.out; simp [intOf]; omega
    have i1 : ¬ (k : Int) < (n : Int) := by omega
    have hk4 : k < 4611686018427387903 := by omega
    have hol : s.opn.length ≤ 140737488351232 := by have := HLS.out.ok.len; omega
    have HFM := Lib.hid (rFirm_any s A ⟨ta, ti⟩ hol wr HLB.out.m)
    obtain ⟨fr, hfr⟩ : ∃ f, frmS ⟨ta, ti⟩ s.opn = f := ⟨_, rfl⟩
    rw [hfr] at HFM
    obtain ⟨kb, c0, c1, c2, c3, c4, mm, ll⟩ := HLB.out
    obtain ⟨_, t0, t1⟩ := HTX.out.later HB.out
    simp only at t0 t1
    clear kb mm ll
    go_wp2_with fail
    refine HFM.out.mono ?_
    rintro e w3 ⟨rfl, hb3⟩
    have HB3 := Lib.hid (HB.out.trans (hb3.mono HB.out.size))
    have HL3 := Lib.hid (HLB.out.later hb3)
    clear hb3 c0 c1 c2 c3 c4 t0 t1
    cases fr
    case false =>
      go_wp2_with fail
      go_ret
      exact ⟨by first | rfl | simp, HFE.out _ HB3.out⟩
    have HFR := Lib.hid ((frm_mem HLS.out.ok).1 hfr)
    have HLS0 := Lib.hid (HLS.out.mono hk)
    clear hfr HFM HLS HB HLB hk hol hk4 i1 hlt
    go_wp2_with fail
    go_loopw [11] (fun iv wr => ∃ (k : Nat) (s : Sh) (A : Sad), k ≤ m ∧ iv = .int .i64 k ∧ LS s (n + k) ∧ (∃ x ∈ s.opn, x.t = ⟨ta, ti⟩ ∧ x.fm = true) ∧ LB W wr x8 s A ∧ Below W.heap.size W wr) (fun iv _ => m - (intOf iv).toNat)
    case atStart => exact ⟨0, s, A, Nat.zero_le _, rfl, HLS0.out, HFR.out, HL3.out, HB3.out⟩
    case round =>
      clear HLS0 HFR HL3 HB3
      obtain ⟨k, s, A, hk, rfl, hls, hfr, hl, hB⟩ := hrel
      have HLS := Lib.hid hls
      have HFR := Lib.hid hfr
      have HLB := Lib.hid hl
      have HB := Lib.hid hB
      clear hls hl hB hfr
      by_cases hlt : k < m
      case pos =>
        have HLT := Lib.hid hlt
        obtain ⟨y, hy⟩ : ∃ y, M[k]? = some y := ⟨_, List.getElem?_eq_getElem (by rw [HJ.out.hlen]; exact hlt)⟩
        have i0 : (0 : Int) ≤ (k : Int) := by omega
        have i1 : (k : Int) < (m : Int) := by omega
        obtain ⟨hp1, hp2, hp3, hp4⟩ := HJ.out.puts y (List.mem_of_getElem? hy)
        have HPB := Lib.hid (HB0.out.trans (HB.out.mono HB0.out.size))
        obtain ⟨b, off, eb, hbl, p0, p1, p2, p3, p4, p5, p6⟩ := HJ.out.cells HPB.out hy
        subst eb
        have HST := Lib.hid (HLS.out.step hp4 (by omega))
        have HDO := Lib.hid (fun (w' : World) (h : Below wr.heap.size wr w') => HD.out s A y.x y.a y.c y.qa y.qn y.qc w' (HPB.out.trans (h.mono HPB.out.size)) (HLB.out.later h).m (HLS.out.szs (by omega)) hp4 hp2 hp3 (hp1.later (HPB.out.trans (h.mono HPB.out.size))))
        have HJC := Lib.hid (fun (w' : World) (h : Below w.heap.size w w') => HJ.out.cells h hy)
        have HFS := Lib.hid (fun (h : ¬ (y.x.t = ⟨ta, ti⟩ ∧ y.x.kind = 4)) => (frm_mem (HLS.out.step hp4 (by omega)).ok).2 (firm_step HLS.out.ok HFR.out h))
        obtain ⟨⟨yk, ⟨ya, yi⟩, yy, yp, yc⟩, aa, ac, qa, qn, qc⟩ := y
        simp only at p0 p1 p2 p3 p4 p5 p6 HST HDO HFS HJC
        obtain ⟨r, hr⟩ : ∃ r, doS s ⟨yk, ⟨ya, yi⟩, yy, yp, yc⟩ = r := ⟨_, rfl⟩
        rw [hr] at HST HDO HFS
        obtain ⟨s', n'⟩ := r
        simp only at HST HFS
        clear hr hy hp1 hp2 hp3 hp4
        obtain ⟨_, t0, t1⟩ := HTX.out.later HB.out
        simp only at t0 t1
        by_cases hcn : (⟨ya, yi⟩ : Tx) = ⟨ta, ti⟩ ∧ yk = 4
        case pos =>
          obtain ⟨he, rfl⟩ := hcn
          cases he
          go_wp2_with fail
          go_quiet (fail)
          go_wp2_with fail
          go_roundw
          case rel => exact ⟨k + 1, s, A, HLT.out, by go_num, HLS.out.mono (by omega), HFR.out, HLB.out.later (below_drewN (Below.refl _ _) _), below_drewN HB.out _⟩
          case measure => have := HLT.out; simp [intOf]; omega
        have HFS2 := Lib.hid (HFS.out hcn)
        have HCASE : (((ya : Int) == (ta : Int)) = false) ∨ (ya = ta ∧ ((yi : Int) == (ti : Int)) = false) ∨ (ya = ta ∧ yi = ti ∧ (yk == 4) = false) := by
          by_cases he : (⟨ya, yi⟩ : Tx) = ⟨ta, ti⟩
          · cases he
            exact .inr (.inr ⟨rfl, rfl, by simpa using hcn⟩)
          · rcases tx_ne he with g | ⟨g0, g⟩
            · exact .inl g
            · exact .inr (.inl ⟨g0, g⟩)
        clear hcn HFS
        go_upto_region 13 with (fail)
        go_cut [63] (fun bv wx => bv = .bool false ∧ ∃ q, wx = wr.drewN q)
        case first =>
          rcases HCASE with g | ⟨rfl, g⟩ | ⟨rfl, rfl, g⟩
          all_goals
            go_wp2_with fail
            go_quiet (fail)
            go_wp2_with fail
            go_meet
            exact ⟨by first | rfl | simp, _, rfl⟩
        case rest =>
          obtain ⟨rfl, q, hq⟩ := hcut
          have HDQ := Lib.hid (show Below wr.heap.size wr wc from hq ▸ below_drewN (Below.refl _ _) _)
          clear hq
          clear p0 p1 p2 p3 p4 p5 p6 t0 t1 HCASE
          obtain ⟨b3, o3, e3, _, p0, p1, p2, p3, p4, p5, p6⟩ := HJC.out _ (HPB.out.trans (HDQ.out.mono HPB.out.size))
          cases e3
          go_upto_region 14 with (fail)
          have HDO2 := HDO.out
          obtain ⟨kb, c0, c1, c2, c3, c4, mm, ll⟩ := HLB.out.later HDQ.out
          clear kb mm ll
          have HDR := Lib.hid (show Below wr.heap.size wr wc.drew from (HDQ.out).drew)
          go_region_law (go_simp; go_at_call 10; (with_reducible refine (HDO2 _ HDR.out).mono ?_); rintro e w2 ⟨A2, rfl, m2, hb2⟩; simp only at m2; have hb3 := HDR.out.trans (hb2.mono HDR.out.size); have M2 := Lib.hid m2; obtain ⟨kb, c0, c1, c2, c3, c4, mm, ll⟩ := HLB.out.later hb3; have fz := kb.fz; have HB3 := Lib.hid hb3; clear kb mm ll m2 hb2 hb3)
          all_goals
            obtain ⟨U, hU⟩ : ∃ U, set5s w2 x8 (.slice A2.ra s'.rows.length A2.rc) (.slice A2.ha s'.holds.length A2.hc) (.slice A2.oa s'.opn.length A2.oc) (.slice A2.da s'.done.length A2.dc) (.int .u64 (s'.ver : Nat)) = U := ⟨_, rfl⟩
            have HE := Lib.hid (show LB W U x8 s' A2 ∧ Below W.heap.size W U from hU ▸ (HLB.out.later HB3.out).putB M2.out (HB.out.trans (HB3.out.mono HB.out.size)))
            simp only [set5s] at hU
            rw [hU]
            clear hU c0 c1 c2 c3 c4 fz HDO2 p0 p1 p2 p3 p4 p5 p6
            obtain ⟨kb, c0, c1, c2, c3, c4, mm, ll⟩ := HE.out.1
            obtain ⟨_, t0, t1⟩ := HTX.out.later HE.out.2
            simp only at t0 t1
            have HFM := Lib.hid (rFirm_any s' A2 ⟨ta, ti⟩ (by have := HST.out.ok.len; omega) U mm)
            rw [HFS2.out] at HFM
            clear kb mm ll
            go_wp2_with fail
            refine HFM.out.mono ?_
            rintro e w5 ⟨rfl, hb5⟩
            have HB5 := Lib.hid (HE.out.2.trans (hb5.mono HE.out.2.size))
            have HL5 := Lib.hid (HE.out.1.later hb5)
            have HFR5 := Lib.hid ((frm_mem HST.out.ok).1 HFS2.out)
            clear hb5 c0 c1 c2 c3 c4 t0 t1
            go_wp2_with fail
            go_roundw
            case rel => exact ⟨k + 1, s', A2, HLT.out, by go_num, HST.out, HFR5.out, HL5.out, HB5.out⟩
            case measure => have := HLT.out; simp [intOf]; omega
      have i1 : ¬ (k : Int) < (m : Int) := by omega
      have hk4 : n + k < 4611686018427387903 := by omega
      obtain ⟨X, hX, hXt, hXf⟩ := HFR.out
      obtain ⟨O, hO⟩ : ∃ O : Odr, (⟨4, ⟨ta, ti⟩, ⟨#[]⟩, [], true⟩ : Odr) = O := ⟨_, rfl⟩
      have hso : SzO O := hO ▸ szo_fin ht true
      obtain ⟨hcm1, hcm2⟩ := firm_commit (o := O) HLS.out.ok (by have := HLS.out.ver; omega) hX hXf (by rw [← hO]; exact hXt.symm) (by rw [← hO]) (by rw [← hO])
      have hst := HLS.out.step hso hk4
      have HDO := Lib.hid (fun w' (h : Below wr.heap.size wr w') => HD.out s A O none 0 none 0 0 w' (HFE.out _ (HB.out.trans (h.mono HB.out.size))) (HLB.out.later h).m (HLS.out.szs hk4) hso (by rw [← hO]; exact Nat.le_refl _) (by decide) (by rw [← hO]; exact Rw.nil _))
      obtain ⟨r, hr⟩ : ∃ r, doS s O = r := ⟨_, rfl⟩
      rw [hr] at HDO hcm1 hcm2 hst
      obtain ⟨u, a'⟩ := r
      subst hO
      simp only at hcm1 hcm2 hst
      have HCA := Lib.hid hcm1
      have HCM := Lib.hid hcm2
      have HST := Lib.hid hst
      have ZS := Lib.hid (HLS.out.szs hk4)
      have ZU := Lib.hid (hst.szs (by omega))
      have HXM := Lib.hid hX
      have HXT := Lib.hid hXt
      have hno : s.opn.length ≤ 140737488351232 := by have := HLS.out.ok.len; omega
      have HUN := Lib.hid (fun (y : Sop) (hy : y ∈ s.opn) (h : y.t = ⟨ta, ti⟩) => HLS.out.ok.uniq hy hX (h.trans hXt.symm))
      have F1 := Lib.hid (fun w' (h : Below wr.heap.size wr w') => (HLB.out.later h))
      have F2 := Lib.hid (fun w' (h : Below wr.heap.size wr w') => HTX.out.later (HB.out.trans (h.mono HB.out.size)))
      clear hcm1 hcm2 hst hso hr hX hXt hXf hlt
      obtain ⟨ns, hns⟩ : ∃ x, s.opn.length = x := ⟨_, rfl⟩
      have HNS := Lib.hid hns
      obtain ⟨kb, c0, c1, c2, c3, c4, mm, ll⟩ := HLB.out
      rw [hns] at c2 hno
      clear kb mm ll hns
      go_upto_region 19 with (fail)
      clear c0 c1 c2 c3 c4
      obtain ⟨wp, hwp⟩ : ∃ x, x = wr := ⟨_, rfl⟩
      rw [← hwp] at HDO F1 F2 HB HLB ⊢
      clear hwp
      go_wp2_with fail
      go_loopw [13, 14] (fun pv iv wx => ∃ j : Nat, j ≤ ns ∧ iv = .int .i64 j ∧ (((∀ z ∈ s.opn.take j, z.t ≠ ⟨ta, ti⟩) ∧ pv = .slice none 0 0) ∨ ∃ y ∈ A.om, y.x.t = ⟨ta, ti⟩ ∧ pv = .slice y.a y.x.puts.length y.c) ∧ Below wp.heap.size wp wx) (fun _ iv _ => ns - (intOf iv).toNat)
      case atStart => exact ⟨0, Nat.zero_le _, rfl, .inl ⟨fun z hz => by simp at hz, rfl⟩, Below.refl _ _⟩
      case round =>
        obtain ⟨j, hj, rfl, hpv, hBj⟩ := hrel
        have HPV := Lib.hid hpv
        have HBJ := Lib.hid hBj
        obtain ⟨kb, c0, c1, c2, c3, c4, mm, ll⟩ := F1.out _ hBj
        rw [HNS.out] at c2
        obtain ⟨_, t0, t1⟩ := F2.out _ hBj
        simp only at t0 t1
        clear kb ll hpv hBj
        by_cases hjl : j < ns
        case pos =>
          have HJL := Lib.hid hjl
          have j0 : (0 : Int) ≤ (j : Int) := by omega
          have j1 : (j : Int) < (ns : Int) := by omega
          obtain ⟨x, hx⟩ : ∃ x, s.opn[j]? = some x := ⟨_, List.getElem?_eq_getElem (by rw [HNS.out]; exact hjl)⟩
          obtain ⟨y, hy, hyx, hym⟩ := opn_at mm hx
          obtain ⟨b1, o1, e1, _, p0, p1, _, _, p4⟩ := Sop.cells mm.opn hy
          have HNX := Lib.hid (show (x.t ≠ ⟨ta, ti⟩ → (((∀ z ∈ s.opn.take (j + 1), z.t ≠ ⟨ta, ti⟩) ∧ u13 = .slice none 0 0) ∨ ∃ y ∈ A.om, y.x.t = ⟨ta, ti⟩ ∧ u13 = .slice y.a y.x.puts.length y.c)) from fun hne => by
            rcases HPV.out with ⟨h1, h2⟩ | h
            · refine .inl ⟨fun z hz => ?_, h2⟩
              rw [List.take_add_one, hx] at hz
              rcases List.mem_append.1 hz with h3 | h3
              · exact h1 z h3
              · obtain rfl : z = x := by simpa using h3
                exact hne
            · exact .inr h)
          have HYM := Lib.hid (fun (h : x.t = ⟨ta, ti⟩) => (show (((∀ z ∈ s.opn.take (j + 1), z.t ≠ ⟨ta, ti⟩) ∧ (Value.slice y.a y.x.puts.length y.c) = .slice none 0 0) ∨ ∃ z ∈ A.om, z.x.t = ⟨ta, ti⟩ ∧ (Value.slice y.a y.x.puts.length y.c) = .slice z.a z.x.puts.length z.c) from .inr ⟨y, hym, by rw [hyx]; exact h, rfl⟩))
          rw [hyx] at p0 p1
          rw [e1] at c2
          obtain ⟨⟨xa, xi⟩, xf, xw, xp⟩ := x
          simp only at p0 p1 HNX HYM
          clear hx hy hyx hym e1 mm hjl
          by_cases he : (⟨xa, xi⟩ : Tx) = ⟨ta, ti⟩
          · have HY2 := Lib.hid (HYM.out he)
            cases he
            clear HNX HYM
            go_wp2_with fail
            go_quiet (fail)
            go_wp2_with fail
            go_roundw
            case rel => exact ⟨j + 1, HJL.out, by go_num, HY2.out, below_drewN HBJ.out _⟩
            case measure => have := HJL.out; simp [intOf]; omega
          · have HY2 := Lib.hid (HNX.out he)
            clear HNX HYM
            rcases tx_ne he with g | ⟨rfl, g⟩
            all_goals
              go_wp2_with fail
              go_quiet (fail)
              go_wp2_with fail
              go_roundw
              case rel => exact ⟨j + 1, HJL.out, by go_num, HY2.out, below_drewN HBJ.out _⟩
              case measure => have := HJL.out; simp [intOf]; omega
        have j1 : ¬ (j : Int) < (ns : Int) := by omega
        obtain ⟨y, hym, hyt, rfl⟩ : ∃ y ∈ A.om, y.x.t = ⟨ta, ti⟩ ∧ u13 = .slice y.a y.x.puts.length y.c := by
          rcases HPV.out with ⟨h1, _⟩ | h
          · rw [List.take_of_length_le (by rw [HNS.out]; omega)] at h1
            exact absurd HXT.out (h1 X HXM.out)
          · exact h
        have hyX : y.x = X := HUN.out y.x (by rw [← mm.om]; exact List.mem_map.2 ⟨y, hym, rfl⟩) hyt
        have HPU := Lib.hid (fun w' (h : Below wp.heap.size wp w') => (F1.out w' h).m.puts y hym)
        rw [hyX] at HPU ⊢
        have hpl : X.puts.length ≤ 140737488351232 := by have := (ZS.out.opn X HXM.out).2.1; omega
        have HDX := Lib.hid (show Calls Try.prog 10 #[.agg #[.slice A.ra s.rows.length A.rc, .slice A.ha s.holds.length A.hc, .slice A.oa ns A.oc, .slice A.da s.done.length A.dc, .int .u64 (s.ver : Nat)], odrV ⟨4, ⟨ta, ti⟩, ⟨#[]⟩, [], true⟩ none 0 (.slice none 0 0)] wr (OrP wr (u, a')) from by rw [← HNS.out]; exact HDO.out wr HBJ.out)
        have HLB := Lib.hid (F1.out wr HBJ.out)
        have HB := Lib.hid (HB.out.trans (HBJ.out.mono HB.out.size))
        clear mm HPV hyX hym hyt hjl
        go_wp2_with fail
        refine HDX.out.mono ?_
        rintro e w2 ⟨A2, rfl, m2, hb2⟩
        simp only at m2
        have HP2 := Lib.hid (HPU.out w2 (HBJ.out.trans (hb2.mono HBJ.out.size)))
        obtain ⟨x15, hx15⟩ : ∃ x, w2.heap.size = x := ⟨_, rfl⟩
        obtain ⟨V1, hV1⟩ : ∃ V, w2.alloc (.cells #[.slice A2.ra u.rows.length A2.rc, .slice A2.ha u.holds.length A2.hc, .slice A2.oa u.opn.length A2.oc, .slice A2.da u.done.length A2.dc, .int .u64 (u.ver : Nat)] 28) = V := ⟨_, rfl⟩
        obtain ⟨V2, hV2⟩ : ∃ V, V1.alloc (.cells #[.int .i64 (a'.err : Nat), .string a'.val, .int .u64 (a'.ver : Nat), .bool a'.found, .bool a'.cm] 38) = V := ⟨_, rfl⟩
        have hB2 := HB.out.trans (hb2.mono HB.out.size)
        obtain ⟨g1, L1⟩ := LB.mk' (w0 := W) m2 hB2.size hV1
        obtain ⟨g2, A4⟩ := AnB.new a' hV2
        have z1 : V1.heap.size = x15 + 1 := by rw [← hV1, ← hx15]; simp
        rw [hx15] at L1
        rw [z1] at A4
        have hB3 := hB2.trans (g1.mono hB2.size)
        have hbV : Below w2.heap.size w2 V2 := g1.trans (g2.mono g1.size)
        have LU := Lib.hid (L1.later g2)
        have LSS := Lib.hid (((HLB.out.later hb2).later g1).later g2)
        have AA := Lib.hid A4
        have HB3 := Lib.hid (hB3.trans (g2.mono hB3.size))
        have HV := Lib.hid (show (w2.alloc (.cells #[.slice A2.ra u.rows.length A2.rc, .slice A2.ha u.holds.length A2.hc, .slice A2.oa u.opn.length A2.oc, .slice A2.da u.done.length A2.dc, .int .u64 (u.ver : Nat)] 28)).alloc (.cells #[.int .i64 (a'.err : Nat), .string a'.val, .int .u64 (a'.ver : Nat), .bool a'.found, .bool a'.cm] 38) = V2 by rw [hV1, hV2])
        have HX15 := Lib.hid hx15
        have TT2 := Lib.hid (HTX.out.later HB3.out)
        clear hV1 hV2 z1 g1 g2 L1 A4 hB2 hB3 hb2 m2 hx15
        clear c0 c1 c2 c3 c4 t0 t1
        have HQ2 := Lib.hid (HP2.out.later hbV)
        clear hbV
        go_upto_region 25 with (fail)
        rw [HV.out, HX15.out]
        have a0 : V2.cell? ⟨x15 + 1, 0, none⟩ = some (.int .i64 0) := by have := AA.out.c0; rw [HCA.out] at this; exact this
        have a4 : V2.cell? ⟨x15 + 1, 4, none⟩ = some (.bool true) := by have := AA.out.c4; rw [HCA.out] at this; exact this
        obtain ⟨PL, hPL⟩ : ∃ P, X.puts = P := ⟨_, rfl⟩
        rw [hPL] at HQ2 HCM hpl ⊢
        obtain ⟨np, hnp⟩ : ∃ x, PL.length = x := ⟨_, rfl⟩
        rw [hnp] at hpl ⊢
        have HNP := Lib.hid hnp
        have hur : u.rows.length ≤ 140737488351232 := by have := ZU.out.rlen; omega
        clear hPL hnp
        go_wp2_with fail
        go_loopw [17] (fun iv wx => ∃ i : Nat, i ≤ np ∧ iv = .int .i64 i ∧ Below V2.heap.size V2 wx) (fun iv _ => np - (intOf iv).toNat)
        case atStart => exact ⟨0, Nat.zero_le _, rfl, Below.refl _ _⟩
        case round =>
          clear a0 a4
          obtain ⟨i, hi, rfl, hBi⟩ := hrel
          have HBI := Lib.hid hBi
          by_cases hil : i < np
          case neg =>
            have k1 : ¬ (i : Int) < (np : Int) := by omega
            clear hBi
            go_wp2_with fail
            go_ret
            exact ⟨by first | rfl | simp, HFE.out _ (HB3.out.trans (HBI.out.mono HB3.out.size))⟩
          have HIL := Lib.hid hil
          have k0 : (0 : Int) ≤ (i : Int) := by omega
          have k1 : (i : Int) < (np : Int) := by omega
          obtain ⟨x, hx⟩ : ∃ x, PL[i]? = some x := ⟨_, List.getElem?_eq_getElem (by rw [HNP.out]; exact hil)⟩
          have HG := Lib.hid (HCM.out x (List.mem_of_getElem? hx))
          have HPC := Lib.hid (fun w' (h : Below V2.heap.size V2 w') => Pus.cells (HQ2.out.later h) hx)
          obtain ⟨b2, o2, e2, _, p0, p1, p2⟩ := HPC.out wr hBi
          rw [e2]
          have HPD := Lib.hid (fun w' (h : Below V2.heap.size V2 w') => (show w'.cell? ⟨b2, o2 + i * 3, none⟩ = some (.string x.key) ∧ w'.cell? ⟨b2, o2 + i * 3 + 1, none⟩ = some (.string x.val) ∧ w'.cell? ⟨b2, o2 + i * 3 + 2, none⟩ = some (.bool x.gone) from by
            obtain ⟨b4, o4, e4, _, g0, g1, g2⟩ := HPC.out w' h
            rw [e2] at e4; cases e4; exact ⟨g0, g1, g2⟩))
          obtain ⟨_, d0, _, _, _, d4, _, _⟩ := LU.out.later hBi
          have HDR := Lib.hid (show Below wr.heap.size wr wr.drew from (Below.refl wr.heap.size wr).drew)
          have HGT := Lib.hid (fun w' (h : Below wr.heap.size wr w') => rGet_any x.key u.rows.length A2.rc A2.ra u.rows rfl hur w' (LU.out.later (HBI.out.trans (h.mono HBI.out.size))).m.rows)
          obtain ⟨gr, hgr⟩ : ∃ g, getR x.key u.rows = g := ⟨_, rfl⟩
          rw [hgr] at HGT HG
          obtain ⟨rz, hrz⟩ : ∃ z, gr.getD z0 = z := ⟨_, rfl⟩
          obtain ⟨gs, hgs⟩ : ∃ z, gr.isSome = z := ⟨_, rfl⟩
          rw [hrz, hgs] at HGT
          have HCASE := Lib.hid (show (x.gone = true ∧ gs = false) ∨ (x.gone = false ∧ gs = true ∧ rz = ⟨x.key, x.val, u.ver⟩) from by
            have h1 := HG.out
            cases hg : x.gone
            · rw [hg, if_neg (by simp)] at h1
              rw [h1] at hrz hgs
              exact .inr ⟨rfl, hgs.symm, hrz.symm⟩
            · rw [hg, if_pos rfl] at h1
              rw [h1] at hgs
              exact .inl ⟨rfl, hgs.symm⟩)
          have HGTO := HGT.out
          clear hgr hrz hgs hx hBi e2 HG
          go_upto_region 30 with (fail)
          go_cut [18, 19] (fun pv bv wx => ∃ q : Nat, pv = .pointer (some ⟨q, 0, none⟩) ∧ bv = .bool gs ∧ wx.cell? ⟨q, 1, none⟩ = some (.string rz.val) ∧ wx.cell? ⟨q, 2, none⟩ = some (.int .u64 (rz.ver : Nat)) ∧ Below wr.heap.size wr wx)
          case first =>
            obtain ⟨rk, rv, rn⟩ := rz
            have HDR2 := Lib.hid (show Below wr.heap.size wr (wr.alloc (.cells #[.string ⟨#[]⟩, .string ⟨#[]⟩, .int .u64 0] 50)).drew from by go_grown)
            have hba : Below V2.heap.size V2 (wr.alloc (.cells #[.string ⟨#[]⟩, .string ⟨#[]⟩, .int .u64 0] 50)) := HBI.out.trans (by have := HBI.out.size; exact ((Below.refl wr.heap.size wr).alloc (Nat.le_refl _) _).mono this)
            obtain ⟨_, dd0, _, _, _, _, _, _⟩ := LU.out.later hba
            obtain ⟨pp0, _, _⟩ := HPD.out _ hba
            clear hba
            have HRB := Lib.hid (fun w5 (hb : Below (wr.alloc (.cells #[.string ⟨#[]⟩, .string ⟨#[]⟩, .int .u64 0] 50)).drew.heap.size (wr.alloc (.cells #[.string ⟨#[]⟩, .string ⟨#[]⟩, .int .u64 0] 50)).drew w5) => rowbox hb)
            go_region_law (go_simp; go_at_call 15; first
              | ((with_reducible refine (HGTO _ HDR.out).mono ?_); rintro e w5 ⟨rfl, hb5⟩; have HB5 := Lib.hid (HDR.out.trans (hb5.mono HDR.out.size)); clear hb5)
              | ((with_reducible refine (HGTO _ HDR2.out).mono ?_); rintro e w5 ⟨rfl, hb5⟩; obtain ⟨s0, s1, s2, sf⟩ := HRB.out w5 hb5; have HB5 := Lib.hid (HDR2.out.trans (hb5.mono HDR2.out.size)); clear hb5))
            all_goals
              clear p0 p1 p2 d0 d4 HGTO dd0 pp0
              go_wp2_with fail
              go_meet
              first
                | exact ⟨_, rfl, rfl, by simp [go_sem, s1], by simp [go_sem, s2], ((HB5.out.setCell (p := ⟨wr.heap.size, 0, none⟩) (Nat.le_refl _) _).setCell (p := ⟨wr.heap.size, 1, none⟩) (Nat.le_refl _) _).setCell (p := ⟨wr.heap.size, 2, none⟩) (Nat.le_refl _) _⟩
                | exact ⟨_, rfl, rfl, by simp [go_sem], by simp [go_sem], HB5.out.alloc HB5.out.size _⟩
          case rest =>
            obtain ⟨q, rfl, rfl, r1, r2, hb5⟩ := hcut
            have HB5 := Lib.hid (HBI.out.trans (hb5.mono HBI.out.size))
            clear hb5 p0 p1 p2 d0 d4 HGTO
            obtain ⟨p0, p1, p2⟩ := HPD.out _ HB5.out
            obtain ⟨_, _, _, _, _, d4, _, _⟩ := LU.out.later HB5.out
            obtain ⟨xk, xv, xg⟩ := x
            simp only at p0 p1 p2 HCASE
            rcases HCASE.out with ⟨rfl, rfl⟩ | ⟨rfl, rfl, rfl⟩
            all_goals
              go_wp2_with fail
              go_quiet (fail)
              go_wp2_with fail
              go_roundw
              case rel => exact ⟨i + 1, HIL.out, by go_num, below_drewN HB5.out _⟩
              case measure => have := HIL.out; simp [intOf]; omega
end Go.Proofs.Ythgnecggdlamfaa
