/- The law CoordStays. -/
import Derived.Test.YtohhkacnjhgamaaPr
import Derived.Test.YtohhkacnjhgamaaOg
namespace Go.Proofs.Ytohhkacnjhgamaa
open Go.RowKit

set_option maxRecDepth 100000 in
set_option maxHeartbeats 8000000 in
theorem law_CoordStays (n c : Nat) (a : Option Addr) (OL : List OdM) (W : World) (I : OdIn W a n c OL) :
    Calls Try.prog 4 #[.slice a n c] W fun e w' => e = .returned (.bool true) ∧ Below W.heap.size W w' := by
  have HI := Lib.hid I
  have hnb : n ≤ 140737488351232 := by have := I.room; omega
  clear I
  go_enter Try.func4, Try.ntmps4
  go_wp2_with fail
  refine (shown_any W).mono ?_
  rintro e w1 ⟨rfl, hb1⟩
  obtain ⟨V, hV⟩ : ∃ V, w1.alloc (.cells #[.slice none 0 0] 24) = V := ⟨_, rfl⟩
  obtain ⟨x4, hx4⟩ : ∃ x, w1.heap.size = x := ⟨_, rfl⟩
  obtain ⟨hbv, hlb⟩ := LBc.new (w0 := W) hb1.size hV
  rw [hx4] at hlb
  have HL0 := Lib.hid hlb
  have HBL := Lib.hid (hb1.trans (hbv.mono hb1.size))
  have HV := Lib.hid hV
  have HX4 := Lib.hid hx4
  clear hb1 hV hx4 hbv hlb
  go_upto_region 3 with (fail)
  rw [HV.out, HX4.out]
  go_wp2_with fail
  go_loopw [5] (fun iv wr => ∃ (k : Nat) (L : List Dl) (A : Cad), k ≤ n ∧ iv = .int .i64 k ∧ LSc L ∧ LBc W wr x4 L A ∧ Below W.heap.size W wr) (fun iv _ => n - (intOf iv).toNat)
  case atStart => exact ⟨0, [], ⟨none, 0, []⟩, Nat.zero_le _, rfl, LSc.nil, HL0.out, HBL.out⟩
  case round =>
    obtain ⟨k, L, A, hk, rfl, hls, hl, hB⟩ := hrel
    have HLS := Lib.hid hls
    have HLB := Lib.hid hl
    have HB := Lib.hid hB
    clear hls hl hB
    by_cases hlt : k < n
    case neg =>
      have i1 : ¬ (k : Int) < (n : Int) := by omega
      go_wp2_with fail
      go_ret
      exact ⟨by first | rfl | simp, HB.out⟩
    have HLT := Lib.hid hlt
    obtain ⟨y, hy⟩ : ∃ y, OL[k]? = some y := ⟨_, List.getElem?_eq_getElem (by rw [HI.out.hlen]; exact hlt)⟩
    obtain ⟨hyp, hyl, hyx⟩ := HI.out.each y (List.mem_of_getElem? hy)
    have HPB := Lib.hid (show Below W.heap.size W wr from HB.out)
    have HYY := Lib.hid hy
    obtain ⟨b, off, rfl, hbl, p0, p1, p2, p3, p4, p5, p6⟩ := HI.out.cells HPB.out hy
    have HDO := Lib.hid (fun w' (hb' : Below wr.heap.size wr w') => HLS.out.doo A (o := y.x) hyx hyl y.key y.q y.qn y.qc y.a y.c w' (HLB.out.m.later hb') ((hyp.later HPB.out).later hb'))
    have HST := Lib.hid (HLS.out.step (o := y.x) hyx)
    have HOX := Lib.hid hyx
    clear hy hyp hyl hyx
    obtain ⟨⟨yk, ⟨ya, yi⟩, yp, yc⟩, yy, yq, yqn, yqc, ya2, yc2⟩ := y
    simp only at p0 p1 p2 p3 p4 p5 p6 HDO HST HOX
    have i0 : (0 : Int) ≤ (k : Int) := by omega
    have i1 : (k : Int) < (n : Int) := by omega
    have i2 : ¬ (k : Int) < 0 := by omega
    obtain ⟨⟨L2, ne, nb⟩, hdo⟩ : ∃ r, doC L ⟨yk, ⟨ya, yi⟩, yp, yc⟩ = r := ⟨_, rfl⟩
    have HEQ := Lib.hid hdo
    rw [hdo] at HDO HST
    simp only at HST
    have HPS := Lib.hid (fun (w' : World) (hb' : Below wr.heap.size wr w') => (show w'.cell? ⟨b, off + k * 7, none⟩ = some (.int .i64 yk) ∧ w'.cell? ⟨b, off + k * 7 + 1, none⟩ = some (.int .u64 (ya : Nat)) ∧ w'.cell? ⟨b, off + k * 7 + 2, none⟩ = some (.int .u64 (yi : Nat)) ∧ w'.cell? ⟨b, off + k * 7 + 3, none⟩ = some (.string yy) ∧ w'.cell? ⟨b, off + k * 7 + 4, none⟩ = some (.slice yq yqn yqc) ∧ w'.cell? ⟨b, off + k * 7 + 5, none⟩ = some (.bool yc) ∧ w'.cell? ⟨b, off + k * 7 + 6, none⟩ = some (.slice ya2 yp.length yc2) from by
      have hlt' : b < wr.heap.size := Nat.lt_of_lt_of_le hbl HPB.out.size
      have f : ∀ i v, wr.cell? ⟨b, i, none⟩ = some v → w'.cell? ⟨b, i, none⟩ = some v := fun i v e => (hb'.cell (p := ⟨b, i, none⟩) hlt').trans e
      exact ⟨f _ _ p0, f _ _ p1, f _ _ p2, f _ _ p3, f _ _ p4, f _ _ p5, f _ _ p6⟩))
    clear p0 p1 p2 p3 p4 p5 p6 hdo
    have c0 := HLB.out.c0
    clear c0
    go_upto_region 6 with (fail)
    refine tillK_begin (S := fun w' => Below wr.heap.size wr w') (k := 9) (by kernel_rfl) ?_
    obtain ⟨wd, hwd⟩ : ∃ V, wr.drew = V := ⟨_, rfl⟩
    have HBd := Lib.hid (show Below wr.heap.size wr wd from hwd ▸ (Below.refl _ _).drew)
    rw [hwd]
    clear hwd
    have Sd : Below wr.heap.size wr wd := HBd.out
    refine tillK_take (i := 0) (v := .agg #[.slice A.a L.length A.c]) rfl (by kernel_rfl) (by kernel_rfl) (by kernel_rfl) (by kernel_rfl) (by kernel_rfl) (by kernel_rfl) (fun _ _ _ h => h) (Or.inl ⟨by rfl, ?hyr_0⟩) (by assumption) ?restr_0
    case hyr_0 =>
      intro w' hb'
      have c0 := (HLB.out.later hb').c0
      go_simp
    try simp only [List.getElem_toArray, List.getElem_cons_zero, Act.put, List.setIfInBounds_toArray, List.set_cons_zero, List.set_cons_succ]
    refine tillK_take (i := 1) (v := .slice (some ⟨b, off, none⟩) n c) rfl (by kernel_rfl) (by kernel_rfl) (by kernel_rfl) (by kernel_rfl) (by kernel_rfl) (by kernel_rfl) (fun _ _ _ h => h) (Or.inl ⟨by rfl, ?hyr_1⟩) (by assumption) ?restr_1
    case hyr_1 =>
      intro w' hb'
      go_simp
    try simp only [List.getElem_toArray, List.getElem_cons_succ, List.getElem_cons_zero, Act.put, List.setIfInBounds_toArray, List.set_cons_zero, List.set_cons_succ]
    refine tillK_take (i := 2) (v := .int .i64 k) rfl (by kernel_rfl) (by kernel_rfl) (by kernel_rfl) (by kernel_rfl) (by kernel_rfl) (by kernel_rfl) (fun _ _ _ h => h) (Or.inl ⟨by rfl, ?hyr_2⟩) (by assumption) ?restr_2
    case hyr_2 =>
      intro w' hb'
      go_simp
    try simp only [List.getElem_toArray, List.getElem_cons_succ, List.getElem_cons_zero, Act.put, List.setIfInBounds_toArray, List.set_cons_zero, List.set_cons_succ]
    refine tillK_take (i := 3) (v := .pointer (some ⟨b, off + k * 7, none⟩)) rfl (by kernel_rfl) (by kernel_rfl) (by kernel_rfl) (by kernel_rfl) (by kernel_rfl) (by kernel_rfl) (fun _ _ _ h => h) (Or.inl ⟨by rfl, ?hyr_3⟩) (by assumption) ?restr_3
    case hyr_3 =>
      intro w' hb'
      go_simp
    try simp only [List.getElem_toArray, List.getElem_cons_succ, List.getElem_cons_zero, Act.put, List.setIfInBounds_toArray, List.set_cons_zero, List.set_cons_succ]
    refine tillK_take (i := 4) (v := .agg #[.int .i64 yk, .int .u64 (ya : Nat), .int .u64 (yi : Nat), .string yy, .slice yq yqn yqc, .bool yc, .slice ya2 yp.length yc2]) rfl (by kernel_rfl) (by kernel_rfl) (by kernel_rfl) (by kernel_rfl) (by kernel_rfl) (by kernel_rfl) (fun _ _ _ h => h) (Or.inl ⟨by rfl, ?hyr_4⟩) (by assumption) ?restr_4
    case hyr_4 =>
      intro w' hb'
      obtain ⟨p0, p1, p2, p3, p4, p5, p6⟩ := HPS.out w' hb'
      go_simp
    try simp only [List.getElem_toArray, List.getElem_cons_succ, List.getElem_cons_zero, Act.put, List.setIfInBounds_toArray, List.set_cons_zero, List.set_cons_succ]
    refine tillK_step (i := 5) (by kernel_rfl) rfl (by rfl) ?_
    intro Kr_5 hKr_5
    have HKr_5 := Lib.hid hKr_5
    clear hKr_5
    go_wp2_with fail
    refine (HDO.out _ HBd.out).mono ?_
    rintro e w2 ⟨A2, rfl, hm2, _, hb2⟩
    have HB2 := Lib.hid (HBd.out.trans (hb2.mono HBd.out.size))
    have HM2 := Lib.hid hm2
    have hkb := (HLB.out.later HB2.out)
    obtain ⟨V, hV⟩ : ∃ V, w2.setCell ⟨x4, 0, none⟩ (.slice A2.a L2.length A2.c) = V := ⟨_, rfl⟩
    have HNW := Lib.hid (show LBc W V x4 L2 A2 from hV ▸ hkb.put hm2)
    have HBN := Lib.hid (show Below W.heap.size W V from (HB.out.trans (HB2.out.mono HB.out.size)).grown (hV ▸ sc_one _ _ _ _) (by have := HB.out.size; have := HB2.out.size; omega) (fun z e => by cases e; exact hkb.l))
    have HV := Lib.hid hV
    have kc := hkb.c0
    have kz := hkb.kb.fz
    clear hm2 hb2 hkb hV
    dsimp only
    refine HKr_5.out.out _ _ (fun _ => HB2.out) ?_
    refine tillK_step (i := 6) (by kernel_rfl) rfl (by rfl) ?_
    intro Kr_6 hKr_6
    have HKr_6 := Lib.hid hKr_6
    clear hKr_6
    go_wp2_with fail
    refine HKr_6.out.out _ _ (fun _ => HB2.out) ?_
    have S2 : Below wr.heap.size wr w2 := HB2.out
    refine tillK_take (i := 7) (v := .agg #[.slice A2.a L2.length A2.c]) rfl (by kernel_rfl) (by kernel_rfl) (by kernel_rfl) (by kernel_rfl) (by kernel_rfl) (by kernel_rfl) (fun _ _ _ h => h) (Or.inl ⟨by rfl, ?hyr_7⟩) (by assumption) ?restr_7
    case hyr_7 =>
      intro w' hb'
      go_simp
    try simp only [List.getElem_toArray, List.getElem_cons_succ, List.getElem_cons_zero, Act.put, List.setIfInBounds_toArray, List.set_cons_zero, List.set_cons_succ]
    refine tillK_step2 (i := 8) (j := 9) (by kernel_rfl) rfl rfl (by rfl) (by rfl) ?_ ?_
    · intro Ka hKa
      have HKa := Lib.hid hKa
      clear hKa
      go_wp2_with fail
      refine HKa.out.out _ _ (fun _ => S2) ?_
      refine tillK_step (i := 9) (by kernel_rfl) rfl (by rfl) ?_
      intro Ks_9 hKs_9
      have HKs_9 := Lib.hid hKs_9
      clear hKs_9
      go_wp2_with fail
      refine HKs_9.out.out _ _ (fun h => by simp at h) ?_
      refine tillK_done (by kernel_rfl) ?_
      rw [HV.out]
      clear kc kz S2
      have c0 := HNW.out.c0
      have HRT := Lib.hid (rRightC_any L2 A2 (by have := HST.out.len; omega) (fun x hx => by have := HST.out.parts x hx; omega) V HNW.out.m)
      have HOK := Lib.hid HST.out.ok
      go_wp2_with fail
      refine HRT.out.mono ?_
      rintro e w5 ⟨rfl, hb5⟩
      rw [HOK.out]
      have HN5 := Lib.hid (HNW.out.later hb5)
      have HB5 := Lib.hid (HBN.out.trans (hb5.mono HBN.out.size))
      clear hb5 c0
      go_wp2_with fail
      go_roundw
      case rel => exact ⟨k + 1, L2, A2, HLT.out, by go_num, HST.out, HN5.out, HB5.out⟩
      case measure => have := HLT.out; simp [intOf]; omega
    · intro Ka hKa
      have HKa := Lib.hid hKa
      clear hKa
      go_wp2_with fail
      refine HKa.out.out _ _ (fun h => by simp at h) ?_
      refine tillK_step (i := 8) (by kernel_rfl) rfl (by rfl) ?_
      intro Kt_8 hKt_8
      have HKt_8 := Lib.hid hKt_8
      clear hKt_8
      go_wp2_with fail
      refine HKt_8.out.out _ _ (fun h => by simp at h) ?_
      refine tillK_done (by kernel_rfl) ?_
      rw [HV.out]
      clear kc kz S2
      have c0 := HNW.out.c0
      have HRT := Lib.hid (rRightC_any L2 A2 (by have := HST.out.len; omega) (fun x hx => by have := HST.out.parts x hx; omega) V HNW.out.m)
      have HOK := Lib.hid HST.out.ok
      go_wp2_with fail
      refine HRT.out.mono ?_
      rintro e w5 ⟨rfl, hb5⟩
      rw [HOK.out]
      have HN5 := Lib.hid (HNW.out.later hb5)
      have HB5 := Lib.hid (HBN.out.trans (hb5.mono HBN.out.size))
      clear hb5 c0
      go_wp2_with fail
      go_roundw
      case rel => exact ⟨k + 1, L2, A2, HLT.out, by go_num, HST.out, HN5.out, HB5.out⟩
      case measure => have := HLT.out; simp [intOf]; omega
end Go.Proofs.Ytohhkacnjhgamaa
