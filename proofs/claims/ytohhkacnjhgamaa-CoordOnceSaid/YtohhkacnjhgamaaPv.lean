/- The law CoordOnce. -/
import Derived.Test.YtohhkacnjhgamaaPt
import Derived.Test.YtohhkacnjhgamaaOi
import Derived.Deep.RegionLaw
import Derived.Deep.QuietTactic
import Derived.BigQuiet
namespace Go.Proofs.Ytohhkacnjhgamaa
open Go.RowKit

set_option maxRecDepth 100000 in
set_option maxHeartbeats 8000000 in
theorem law_CoordOnce (n c : Nat) (a : Option Addr) (OL : List OdM) (t : Tx) (w : World) (I : OdIn w a n c OL) :
    Calls Try.prog 5 #[.slice a n c, txV t] w fun e w' => e = .returned (.bool true) ∧ Below w.heap.size w w' := by
  obtain ⟨ta, ti⟩ := t
  obtain ⟨W, hW⟩ : ∃ W, w.alloc (.cells #[.int .u64 (ta : Nat), .int .u64 (ti : Nat)] 27) = W := ⟨_, rfl⟩
  obtain ⟨x3, hx3⟩ : ∃ x, w.heap.size = x := ⟨_, rfl⟩
  have hB0 : Below w.heap.size w W := hW ▸ (Below.refl _ _).alloc (Nat.le_refl _) _
  have hT : TxBox W x3 ⟨ta, ti⟩ := by rw [← hW, ← hx3]; exact ⟨by simp, by simp [go_sem], by simp [go_sem]⟩
  have HB0 := Lib.hid hB0
  have HT := Lib.hid (fun w' (h : Below W.heap.size W w') => hT.later h)
  have HFE := Lib.hid (fun w' (h : Below W.heap.size W w') => hB0.trans (h.mono hB0.size))
  have HW := Lib.hid hW
  have HX3 := Lib.hid hx3
  have HI := Lib.hid I
  have hnb : n ≤ 140737488351232 := by have := I.room; omega
  clear I hW hx3 hB0 hT
  go_enter Try.func5, Try.ntmps5
  go_upto_region 1 with (fail)
  rw [HW.out, HX3.out]
  go_wp2_with fail
  refine (shown_any W).mono ?_
  rintro e w1 ⟨rfl, hb1⟩
  obtain ⟨V0, hV⟩ : ∃ V, w1.alloc (.cells #[.slice none 0 0] 24) = V := ⟨_, rfl⟩
  obtain ⟨x8, hx8⟩ : ∃ x, w1.heap.size = x := ⟨_, rfl⟩
  obtain ⟨hbv, hlb⟩ := LBc.new (w0 := W) hb1.size hV
  rw [hx8] at hlb
  have HL0 := Lib.hid hlb
  have HBL := Lib.hid (hb1.trans (hbv.mono hb1.size))
  have HV0 := Lib.hid hV
  have HX8 := Lib.hid hx8
  clear hb1 hV hx8 hbv hlb
  go_upto_region 3 with (fail)
  rw [HV0.out, HX8.out]
  go_wp2_with fail
  go_loopw [7, 8, 9] (fun bv fv iv wr => ∃ (k : Nat) (L : List Dl) (A : Cad) (td cm : Bool), k ≤ n ∧ bv = .bool td ∧ fv = .bool cm ∧ iv = .int .i64 k ∧ LSc L ∧ TdC ⟨ta, ti⟩ L td cm ∧ LBc W wr x8 L A ∧ Below W.heap.size W wr) (fun _ _ iv _ => n - (intOf iv).toNat)
  case atStart => exact ⟨0, [], ⟨none, 0, []⟩, false, false, Nat.zero_le _, rfl, rfl, rfl, LSc.nil, td_nil _ _, HL0.out, HBL.out⟩
  case round =>
    obtain ⟨k, L, A, td, cm, hk, rfl, rfl, rfl, hls, htd, hl, hB⟩ := hrel
    have HLS := Lib.hid hls
    have HTD0 := Lib.hid htd
    have HLB := Lib.hid hl
    have HB := Lib.hid hB
    clear hls htd hl hB
    by_cases hlt : k < n
    case neg =>
      have i1 : ¬ (k : Int) < (n : Int) := by omega
      go_wp2_with fail
      go_ret
      exact ⟨by first | rfl | simp, HFE.out _ HB.out⟩
    have HLT := Lib.hid hlt
    obtain ⟨y, hy⟩ : ∃ y, OL[k]? = some y := ⟨_, List.getElem?_eq_getElem (by rw [HI.out.hlen]; exact hlt)⟩
    obtain ⟨hyp, hyl, hyx⟩ := HI.out.each y (List.mem_of_getElem? hy)
    have HPB := Lib.hid (show Below w.heap.size w wr from HFE.out _ HB.out)
    have HYY := Lib.hid hy
    obtain ⟨b, off, rfl, hbl, p0, p1, p2, p3, p4, p5, p6⟩ := HI.out.cells HPB.out hy
    have HDO := Lib.hid (fun w' (hb' : Below wr.heap.size wr w') => HLS.out.doo A (o := y.x) hyx hyl y.key y.q y.qn y.qc y.a y.c w' (HLB.out.m.later hb') ((hyp.later HPB.out).later hb'))
    have HST := Lib.hid (HLS.out.step (o := y.x) hyx)
    have HOX := Lib.hid hyx
    clear hy hyp hyl hyx
    obtain ⟨⟨yk, ⟨ya, yi⟩, yp, yc⟩, yy, yq, yqn, yqc, ya2, yc2⟩ := y
    simp only at p0 p1 p2 p3 p4 p5 p6 HDO HST HOX
    have i0 : (0 : Int) ≤ (k : Int) := by omega
    have i1 : (k : Int) < (n : Int) := by omega
    have i2 : ¬ (k : Int) < 0 := by omega
    obtain ⟨⟨L2, ne, nb⟩, hdo⟩ : ∃ r, doC L ⟨yk, ⟨ya, yi⟩, yp, yc⟩ = r := ⟨_, rfl⟩
    have HEQ := Lib.hid hdo
    rw [hdo] at HDO HST
    simp only at HST
    have HPS := Lib.hid (fun (w' : World) (hb' : Below wr.heap.size wr w') => (show w'.cell? ⟨b, off + k * 7, none⟩ = some (.int .i64 yk) ∧ w'.cell? ⟨b, off + k * 7 + 1, none⟩ = some (.int .u64 (ya : Nat)) ∧ w'.cell? ⟨b, off + k * 7 + 2, none⟩ = some (.int .u64 (yi : Nat)) ∧ w'.cell? ⟨b, off + k * 7 + 3, none⟩ = some (.string yy) ∧ w'.cell? ⟨b, off + k * 7 + 4, none⟩ = some (.slice yq yqn yqc) ∧ w'.cell? ⟨b, off + k * 7 + 5, none⟩ = some (.bool yc) ∧ w'.cell? ⟨b, off + k * 7 + 6, none⟩ = some (.slice ya2 yp.length yc2) from by
      have hlt' : b < wr.heap.size := Nat.lt_of_lt_of_le hbl HPB.out.size
      have f : ∀ i v, wr.cell? ⟨b, i, none⟩ = some v → w'.cell? ⟨b, i, none⟩ = some v := fun i v e => (hb'.cell (p := ⟨b, i, none⟩) hlt').trans e
      exact ⟨f _ _ p0, f _ _ p1, f _ _ p2, f _ _ p3, f _ _ p4, f _ _ p5, f _ _ p6⟩))
    clear p0 p1 p2 p3 p4 p5 p6 hdo
    obtain ⟨es, hes⟩ : ∃ s : ByteArray, (⟨#[]⟩ : ByteArray) = s := ⟨_, rfl⟩
    obtain ⟨ev, hev⟩ : ∃ v : Int, (0 : Int) = v := ⟨_, rfl⟩
    obtain ⟨ef, hef⟩ : ∃ b : Bool, false = b := ⟨_, rfl⟩
    have HAN := Lib.hid (show anV ne nb = .agg #[.int .i64 (ne : Nat), .string es, .int .u64 ev, .bool ef, .bool nb] from by rw [← hes, ← hev, ← hef])
    clear hes hev hef
    go_upto_region 8 with (fail)
    go_cut [10, 11] (fun uv bv wx => ∃ (x6 x7 : Nat) (A2 : Cad) (V : World), V = wx ∧ uv = .pointer (some ⟨x6, 0, none⟩) ∧ bv = .pointer (some ⟨x7, 0, none⟩) ∧ TwBc W wr wx x8 x6 x7 L L2 A A2 ne nb)
    case first =>
      refine tillK_begin (S := fun w' => Below wr.heap.size wr w') (k := 12) (by kernel_rfl) ?_
      obtain ⟨wd, hwd⟩ : ∃ V, wr.drew = V := ⟨_, rfl⟩
      have HBd := Lib.hid (show Below wr.heap.size wr wd from hwd ▸ (Below.refl _ _).drew)
      rw [hwd]
      clear hwd
      have Sd : Below wr.heap.size wr wd := HBd.out
      refine tillK_take (i := 0) (v := .agg #[.slice A.a L.length A.c]) rfl (by kernel_rfl) (by kernel_rfl) (by kernel_rfl) (by kernel_rfl) (by kernel_rfl) (by kernel_rfl) (fun _ _ _ h => h) (Or.inl ⟨by rfl, ?hyr_0⟩) (by assumption) ?restr_0
      case hyr_0 =>
        intro w' hb'
        have c0 := (HLB.out.later hb').c0
        go_simp
      try simp only [List.getElem_toArray, List.getElem_cons_zero, Act.put, List.setIfInBounds_toArray, List.set_cons_zero, List.set_cons_succ]
      refine tillK_take (i := 1) (v := .slice (some ⟨b, off, none⟩) n c) rfl (by kernel_rfl) (by kernel_rfl) (by kernel_rfl) (by kernel_rfl) (by kernel_rfl) (by kernel_rfl) (fun _ _ _ h => h) (Or.inl ⟨by rfl, ?hyr_1⟩) (by assumption) ?restr_1
      case hyr_1 =>
        intro w' hb'
        go_simp
      try simp only [List.getElem_toArray, List.getElem_cons_succ, List.getElem_cons_zero, Act.put, List.setIfInBounds_toArray, List.set_cons_zero, List.set_cons_succ]
      refine tillK_take (i := 2) (v := .int .i64 k) rfl (by kernel_rfl) (by kernel_rfl) (by kernel_rfl) (by kernel_rfl) (by kernel_rfl) (by kernel_rfl) (fun _ _ _ h => h) (Or.inl ⟨by rfl, ?hyr_2⟩) (by assumption) ?restr_2
      case hyr_2 =>
        intro w' hb'
        go_simp
      try simp only [List.getElem_toArray, List.getElem_cons_succ, List.getElem_cons_zero, Act.put, List.setIfInBounds_toArray, List.set_cons_zero, List.set_cons_succ]
      refine tillK_take (i := 3) (v := .pointer (some ⟨b, off + k * 7, none⟩)) rfl (by kernel_rfl) (by kernel_rfl) (by kernel_rfl) (by kernel_rfl) (by kernel_rfl) (by kernel_rfl) (fun _ _ _ h => h) (Or.inl ⟨by rfl, ?hyr_3⟩) (by assumption) ?restr_3
      case hyr_3 =>
        intro w' hb'
        go_simp
      try simp only [List.getElem_toArray, List.getElem_cons_succ, List.getElem_cons_zero, Act.put, List.setIfInBounds_toArray, List.set_cons_zero, List.set_cons_succ]
      refine tillK_take (i := 4) (v := .agg #[.int .i64 yk, .int .u64 (ya : Nat), .int .u64 (yi : Nat), .string yy, .slice yq yqn yqc, .bool yc, .slice ya2 yp.length yc2]) rfl (by kernel_rfl) (by kernel_rfl) (by kernel_rfl) (by kernel_rfl) (by kernel_rfl) (by kernel_rfl) (fun _ _ _ h => h) (Or.inl ⟨by rfl, ?hyr_4⟩) (by assumption) ?restr_4
      case hyr_4 =>
        intro w' hb'
        obtain ⟨p0, p1, p2, p3, p4, p5, p6⟩ := HPS.out w' hb'
        go_simp
      try simp only [List.getElem_toArray, List.getElem_cons_succ, List.getElem_cons_zero, Act.put, List.setIfInBounds_toArray, List.set_cons_zero, List.set_cons_succ]
      refine tillK_step3 (i := 5) (j := 9) (m := 10) (by kernel_rfl) rfl rfl rfl (by rfl) (by rfl) (by rfl) ?_ ?_ ?_
      · intro Kc hKc
        have HKc := Lib.hid hKc
        clear hKc
        go_wp2_with fail
        refine (HDO.out _ HBd.out).mono ?_
        rintro e vc ⟨A2, rfl, hmc, hlc, hbc⟩
        rw [HAN.out]
        have HM2 := Lib.hid hmc
        have HL2 := Lib.hid (show ∀ y ∈ A2.om, LI y.a wd.heap.size vc.heap.size from hlc)
        have HBc := Lib.hid (HBd.out.trans (hbc.mono HBd.out.size))
        have HCc := Lib.hid hbc
        clear hmc hlc hbc
        dsimp only
        refine HKc.out.out _ _ (fun _ => HBc.out) ?_
        have Sc : Below wr.heap.size wr vc := HBc.out
        refine tillK_take (i := 6) (v := .tuple #[.agg #[.slice A2.a L2.length A2.c], .agg #[.int .i64 (ne : Nat), .string es, .int .u64 ev, .bool ef, .bool nb]]) rfl (by kernel_rfl) (by kernel_rfl) (by kernel_rfl) (by kernel_rfl) (by kernel_rfl) (by kernel_rfl) (fun _ _ _ h => h) (Or.inl ⟨by rfl, ?hyc_6⟩) (by assumption) ?restc_6
        case hyc_6 =>
          intro w' hb'
          go_simp
        try simp only [List.getElem_toArray, List.getElem_cons_succ, List.getElem_cons_zero, Act.put, List.setIfInBounds_toArray, List.set_cons_zero, List.set_cons_succ]
        refine tillK_take (i := 7) (v := .agg #[.slice A2.a L2.length A2.c]) rfl (by kernel_rfl) (by kernel_rfl) (by kernel_rfl) (by kernel_rfl) (by kernel_rfl) (by kernel_rfl) (fun _ _ _ h => h) (Or.inl ⟨by rfl, ?hyc_7⟩) (by assumption) ?restc_7
        case hyc_7 =>
          intro w' hb'
          go_simp
        try simp only [List.getElem_toArray, List.getElem_cons_succ, List.getElem_cons_zero, Act.put, List.setIfInBounds_toArray, List.set_cons_zero, List.set_cons_succ]
        refine tillK_take (i := 8) (v := .agg #[.int .i64 (ne : Nat), .string es, .int .u64 ev, .bool ef, .bool nb]) rfl (by kernel_rfl) (by kernel_rfl) (by kernel_rfl) (by kernel_rfl) (by kernel_rfl) (by kernel_rfl) (fun _ _ _ h => h) (Or.inl ⟨by rfl, ?hyc_8⟩) (by assumption) ?restc_8
        case hyc_8 =>
          intro w' hb'
          go_simp
        try simp only [List.getElem_toArray, List.getElem_cons_succ, List.getElem_cons_zero, Act.put, List.setIfInBounds_toArray, List.set_cons_zero, List.set_cons_succ]
        refine tillK_step2 (i := 9) (j := 10) (by kernel_rfl) rfl rfl (by rfl) (by rfl) ?_ ?_
        · intro Kcs hKcs
          have HKcs := Lib.hid hKcs
          clear hKcs
          go_wp2_with fail
          obtain ⟨vcs, hvcs⟩ : ∃ V, vc.alloc (.cells #[.slice none 0 0] 24) = V := ⟨_, rfl⟩
          obtain ⟨x6, hx6⟩ : ∃ x, vc.heap.size = x := ⟨_, rfl⟩
          have hbcs : Below vc.heap.size vc vcs := by rw [← hvcs]; go_grown
          have Hx6 := Lib.hid (show KB vcs x6 [1] from hvcs ▸ KB.new1 hx6.symm _ _)
          have HLx6 := Lib.hid (show wr.heap.size ≤ x6 from by have := HBc.out.size; omega)
          have HEx6 := Lib.hid hx6
          have HGcs := Lib.hid (show vcs.heap.size = x6 + 1 from by rw [← hvcs, ← hx6]; simp)
          have HBcs := Lib.hid (HBc.out.trans (hbcs.mono HBc.out.size))
          have HCcs := Lib.hid hbcs
          rw [hvcs, hx6]
          clear hvcs hx6 hbcs
          refine HKcs.out.out _ _ (fun _ => HBcs.out) ?_
          have Scs : Below wr.heap.size wr vcs := HBcs.out
          refine tillK_step (i := 10) (by kernel_rfl) rfl (by rfl) ?_
          intro Kcsa hKcsa
          have HKcsa := Lib.hid hKcsa
          clear hKcsa
          go_wp2_with fail
          obtain ⟨vcsa, hvcsa⟩ : ∃ V, vcs.alloc (.cells #[.int .i64 0, .string ⟨#[]⟩, .int .u64 0, .bool false, .bool false] 41) = V := ⟨_, rfl⟩
          obtain ⟨x7, hx7⟩ : ∃ x, vcs.heap.size = x := ⟨_, rfl⟩
          have hbcsa : Below vcs.heap.size vcs vcsa := by rw [← hvcsa]; go_grown
          have Hx7 := Lib.hid (show KB vcsa x7 anK from hvcsa ▸ KB.new5 hx7.symm _ _ _ _ _ _)
          have HLx7 := Lib.hid (show wr.heap.size ≤ x7 from by have := HBcs.out.size; omega)
          have HEx7 := Lib.hid hx7
          have HGcsa := Lib.hid (show vcsa.heap.size = x7 + 1 from by rw [← hvcsa, ← hx7]; simp)
          have HBcsa := Lib.hid (HBcs.out.trans (hbcsa.mono HBcs.out.size))
          have HCcsa := Lib.hid hbcsa
          rw [hvcsa, hx7]
          clear hvcsa hx7 hbcsa
          refine HKcsa.out.out _ _ (fun _ => HBcsa.out) ?_
          have Scsa : Below wr.heap.size wr vcsa := HBcsa.out
          have HTA := Lib.hid (show TwAc W wr vcsa x8 x6 x7 L L2 A A2 from by
            have sc := HCc.out.size
            have scs := HCcs.out.size
            have scsa := HCcsa.out.size
            have h6 := HEx6.out
            have h7 := HEx7.out
            have g9 := HGcs.out
            have g10 := HGcsa.out
            exact ⟨HLB.out, ((HM2.out).later HCcs.out).later HCcsa.out, (Hx6.out).later HCcsa.out, Hx7.out, fun y hy => (HL2.out y hy).ne (by omega), HLx6.out, HLx7.out, by omega, HBcsa.out⟩)
          obtain ⟨u0, e0⟩ := HTA.out.k6.so 0 (by decide)
          obtain ⟨v0, g0⟩ := HTA.out.k7.so 0 (by decide)
          obtain ⟨v1, g1⟩ := HTA.out.k7.so 1 (by decide)
          obtain ⟨v2, g2⟩ := HTA.out.k7.so 2 (by decide)
          obtain ⟨v3, g3⟩ := HTA.out.k7.so 3 (by decide)
          obtain ⟨v4, g4⟩ := HTA.out.k7.so 4 (by decide)
          have f6 := HTA.out.k6.fz
          have f7 := HTA.out.k7.fz
          have N67 := HTA.out.n67
          refine tillK_step (i := 11) (by kernel_rfl) rfl (by rfl) ?_
          intro Kcsafs hKcsafs
          have HKcsafs := Lib.hid hKcsafs
          clear hKcsafs
          go_wp2_with fail
          refine HKcsafs.out.out _ _ (fun _ => HBcsa.out.grown (sc_one _ _ _ _) HBcsa.out.size (fun z e => by cases e; exact HLx6.out)) ?_
          refine tillK_step (i := 12) (by kernel_rfl) rfl (by rfl) ?_
          intro Kcsaft hKcsaft
          have HKcsaft := Lib.hid hKcsaft
          clear hKcsaft
          go_wp2_with fail
          refine HKcsaft.out.out _ _ (fun h => by simp at h) ?_
          refine tillK_done (by kernel_rfl) ?_
          go_wp2_with fail
          go_meet
          exact ⟨x6, x7, A2, _, rfl, rfl, rfl, HTA.out.fin ne es ev ef nb _ rfl⟩
        · intro Kca hKca
          have HKca := Lib.hid hKca
          clear hKca
          go_wp2_with fail
          obtain ⟨vca, hvca⟩ : ∃ V, vc.alloc (.cells #[.int .i64 0, .string ⟨#[]⟩, .int .u64 0, .bool false, .bool false] 41) = V := ⟨_, rfl⟩
          obtain ⟨x7, hx7⟩ : ∃ x, vc.heap.size = x := ⟨_, rfl⟩
          have hbca : Below vc.heap.size vc vca := by rw [← hvca]; go_grown
          have Hx7 := Lib.hid (show KB vca x7 anK from hvca ▸ KB.new5 hx7.symm _ _ _ _ _ _)
          have HLx7 := Lib.hid (show wr.heap.size ≤ x7 from by have := HBc.out.size; omega)
          have HEx7 := Lib.hid hx7
          have HGca := Lib.hid (show vca.heap.size = x7 + 1 from by rw [← hvca, ← hx7]; simp)
          have HBca := Lib.hid (HBc.out.trans (hbca.mono HBc.out.size))
          have HCca := Lib.hid hbca
          rw [hvca, hx7]
          clear hvca hx7 hbca
          refine HKca.out.out _ _ (fun _ => HBca.out) ?_
          have Sca : Below wr.heap.size wr vca := HBca.out
          refine tillK_step (i := 9) (by kernel_rfl) rfl (by rfl) ?_
          intro Kcas hKcas
          have HKcas := Lib.hid hKcas
          clear hKcas
          go_wp2_with fail
          obtain ⟨vcas, hvcas⟩ : ∃ V, vca.alloc (.cells #[.slice none 0 0] 24) = V := ⟨_, rfl⟩
          obtain ⟨x6, hx6⟩ : ∃ x, vca.heap.size = x := ⟨_, rfl⟩
          have hbcas : Below vca.heap.size vca vcas := by rw [← hvcas]; go_grown
          have Hx6 := Lib.hid (show KB vcas x6 [1] from hvcas ▸ KB.new1 hx6.symm _ _)
          have HLx6 := Lib.hid (show wr.heap.size ≤ x6 from by have := HBca.out.size; omega)
          have HEx6 := Lib.hid hx6
          have HGcas := Lib.hid (show vcas.heap.size = x6 + 1 from by rw [← hvcas, ← hx6]; simp)
          have HBcas := Lib.hid (HBca.out.trans (hbcas.mono HBca.out.size))
          have HCcas := Lib.hid hbcas
          rw [hvcas, hx6]
          clear hvcas hx6 hbcas
          refine HKcas.out.out _ _ (fun _ => HBcas.out) ?_
          have Scas : Below wr.heap.size wr vcas := HBcas.out
          have HTA := Lib.hid (show TwAc W wr vcas x8 x6 x7 L L2 A A2 from by
            have sc := HCc.out.size
            have sca := HCca.out.size
            have scas := HCcas.out.size
            have h6 := HEx6.out
            have h7 := HEx7.out
            have g9 := HGcas.out
            have g10 := HGca.out
            exact ⟨HLB.out, ((HM2.out).later HCca.out).later HCcas.out, Hx6.out, (Hx7.out).later HCcas.out, fun y hy => (HL2.out y hy).ne (by omega), HLx6.out, HLx7.out, by omega, HBcas.out⟩)
          obtain ⟨u0, e0⟩ := HTA.out.k6.so 0 (by decide)
          obtain ⟨v0, g0⟩ := HTA.out.k7.so 0 (by decide)
          obtain ⟨v1, g1⟩ := HTA.out.k7.so 1 (by decide)
          obtain ⟨v2, g2⟩ := HTA.out.k7.so 2 (by decide)
          obtain ⟨v3, g3⟩ := HTA.out.k7.so 3 (by decide)
          obtain ⟨v4, g4⟩ := HTA.out.k7.so 4 (by decide)
          have f6 := HTA.out.k6.fz
          have f7 := HTA.out.k7.fz
          have N67 := HTA.out.n67
          refine tillK_step (i := 11) (by kernel_rfl) rfl (by rfl) ?_
          intro Kcasfs hKcasfs
          have HKcasfs := Lib.hid hKcasfs
          clear hKcasfs
          go_wp2_with fail
          refine HKcasfs.out.out _ _ (fun _ => HBcas.out.grown (sc_one _ _ _ _) HBcas.out.size (fun z e => by cases e; exact HLx6.out)) ?_
          refine tillK_step (i := 12) (by kernel_rfl) rfl (by rfl) ?_
          intro Kcasft hKcasft
          have HKcasft := Lib.hid hKcasft
          clear hKcasft
          go_wp2_with fail
          refine HKcasft.out.out _ _ (fun h => by simp at h) ?_
          refine tillK_done (by kernel_rfl) ?_
          go_wp2_with fail
          go_meet
          exact ⟨x6, x7, A2, _, rfl, rfl, rfl, HTA.out.fin ne es ev ef nb _ rfl⟩
      · intro Ks hKs
        have HKs := Lib.hid hKs
        clear hKs
        go_wp2_with fail
        obtain ⟨vs, hvs⟩ : ∃ V, wd.alloc (.cells #[.slice none 0 0] 24) = V := ⟨_, rfl⟩
        obtain ⟨x6, hx6⟩ : ∃ x, wd.heap.size = x := ⟨_, rfl⟩
        have hbs : Below wd.heap.size wd vs := by rw [← hvs]; go_grown
        have Hx6 := Lib.hid (show KB vs x6 [1] from hvs ▸ KB.new1 hx6.symm _ _)
        have HLx6 := Lib.hid (show wr.heap.size ≤ x6 from by have := HBd.out.size; omega)
        have HEx6 := Lib.hid hx6
        have HGs := Lib.hid (show vs.heap.size = x6 + 1 from by rw [← hvs, ← hx6]; simp)
        have HBs := Lib.hid (HBd.out.trans (hbs.mono HBd.out.size))
        have HCs := Lib.hid hbs
        rw [hvs, hx6]
        clear hvs hx6 hbs
        refine HKs.out.out _ _ (fun _ => HBs.out) ?_
        have Ss : Below wr.heap.size wr vs := HBs.out
        refine tillK_step2 (i := 5) (j := 10) (by kernel_rfl) rfl rfl (by rfl) (by rfl) ?_ ?_
        · intro Ksc hKsc
          have HKsc := Lib.hid hKsc
          clear hKsc
          go_wp2_with fail
          refine (HDO.out _ HBs.out).mono ?_
          rintro e vsc ⟨A2, rfl, hmsc, hlsc, hbsc⟩
          rw [HAN.out]
          have HM2 := Lib.hid hmsc
          have HL2 := Lib.hid (show ∀ y ∈ A2.om, LI y.a vs.heap.size vsc.heap.size from hlsc)
          have HBsc := Lib.hid (HBs.out.trans (hbsc.mono HBs.out.size))
          have HCsc := Lib.hid hbsc
          clear hmsc hlsc hbsc
          dsimp only
          refine HKsc.out.out _ _ (fun _ => HBsc.out) ?_
          have Ssc : Below wr.heap.size wr vsc := HBsc.out
          refine tillK_take (i := 6) (v := .tuple #[.agg #[.slice A2.a L2.length A2.c], .agg #[.int .i64 (ne : Nat), .string es, .int .u64 ev, .bool ef, .bool nb]]) rfl (by kernel_rfl) (by kernel_rfl) (by kernel_rfl) (by kernel_rfl) (by kernel_rfl) (by kernel_rfl) (fun _ _ _ h => h) (Or.inl ⟨by rfl, ?hysc_6⟩) (by assumption) ?restsc_6
          case hysc_6 =>
            intro w' hb'
            go_simp
          try simp only [List.getElem_toArray, List.getElem_cons_succ, List.getElem_cons_zero, Act.put, List.setIfInBounds_toArray, List.set_cons_zero, List.set_cons_succ]
          refine tillK_take (i := 7) (v := .agg #[.slice A2.a L2.length A2.c]) rfl (by kernel_rfl) (by kernel_rfl) (by kernel_rfl) (by kernel_rfl) (by kernel_rfl) (by kernel_rfl) (fun _ _ _ h => h) (Or.inl ⟨by rfl, ?hysc_7⟩) (by assumption) ?restsc_7
          case hysc_7 =>
            intro w' hb'
            go_simp
          try simp only [List.getElem_toArray, List.getElem_cons_succ, List.getElem_cons_zero, Act.put, List.setIfInBounds_toArray, List.set_cons_zero, List.set_cons_succ]
          refine tillK_take (i := 8) (v := .agg #[.int .i64 (ne : Nat), .string es, .int .u64 ev, .bool ef, .bool nb]) rfl (by kernel_rfl) (by kernel_rfl) (by kernel_rfl) (by kernel_rfl) (by kernel_rfl) (by kernel_rfl) (fun _ _ _ h => h) (Or.inl ⟨by rfl, ?hysc_8⟩) (by assumption) ?restsc_8
          case hysc_8 =>
            intro w' hb'
            go_simp
          try simp only [List.getElem_toArray, List.getElem_cons_succ, List.getElem_cons_zero, Act.put, List.setIfInBounds_toArray, List.set_cons_zero, List.set_cons_succ]
          refine tillK_step (i := 10) (by kernel_rfl) rfl (by rfl) ?_
          intro Ksca hKsca
          have HKsca := Lib.hid hKsca
          clear hKsca
          go_wp2_with fail
          obtain ⟨vsca, hvsca⟩ : ∃ V, vsc.alloc (.cells #[.int .i64 0, .string ⟨#[]⟩, .int .u64 0, .bool false, .bool false] 41) = V := ⟨_, rfl⟩
          obtain ⟨x7, hx7⟩ : ∃ x, vsc.heap.size = x := ⟨_, rfl⟩
          have hbsca : Below vsc.heap.size vsc vsca := by rw [← hvsca]; go_grown
          have Hx7 := Lib.hid (show KB vsca x7 anK from hvsca ▸ KB.new5 hx7.symm _ _ _ _ _ _)
          have HLx7 := Lib.hid (show wr.heap.size ≤ x7 from by have := HBsc.out.size; omega)
          have HEx7 := Lib.hid hx7
          have HGsca := Lib.hid (show vsca.heap.size = x7 + 1 from by rw [← hvsca, ← hx7]; simp)
          have HBsca := Lib.hid (HBsc.out.trans (hbsca.mono HBsc.out.size))
          have HCsca := Lib.hid hbsca
          rw [hvsca, hx7]
          clear hvsca hx7 hbsca
          refine HKsca.out.out _ _ (fun _ => HBsca.out) ?_
          have Ssca : Below wr.heap.size wr vsca := HBsca.out
          have HTA := Lib.hid (show TwAc W wr vsca x8 x6 x7 L L2 A A2 from by
            have ss := HCs.out.size
            have ssc := HCsc.out.size
            have ssca := HCsca.out.size
            have h6 := HEx6.out
            have h7 := HEx7.out
            have g9 := HGs.out
            have g10 := HGsca.out
            exact ⟨HLB.out, (HM2.out).later HCsca.out, ((Hx6.out).later HCsc.out).later HCsca.out, Hx7.out, fun y hy => (HL2.out y hy).ne (by omega), HLx6.out, HLx7.out, by omega, HBsca.out⟩)
          obtain ⟨u0, e0⟩ := HTA.out.k6.so 0 (by decide)
          obtain ⟨v0, g0⟩ := HTA.out.k7.so 0 (by decide)
          obtain ⟨v1, g1⟩ := HTA.out.k7.so 1 (by decide)
          obtain ⟨v2, g2⟩ := HTA.out.k7.so 2 (by decide)
          obtain ⟨v3, g3⟩ := HTA.out.k7.so 3 (by decide)
          obtain ⟨v4, g4⟩ := HTA.out.k7.so 4 (by decide)
          have f6 := HTA.out.k6.fz
          have f7 := HTA.out.k7.fz
          have N67 := HTA.out.n67
          refine tillK_step (i := 11) (by kernel_rfl) rfl (by rfl) ?_
          intro Kscafs hKscafs
          have HKscafs := Lib.hid hKscafs
          clear hKscafs
          go_wp2_with fail
          refine HKscafs.out.out _ _ (fun _ => HBsca.out.grown (sc_one _ _ _ _) HBsca.out.size (fun z e => by cases e; exact HLx6.out)) ?_
          refine tillK_step (i := 12) (by kernel_rfl) rfl (by rfl) ?_
          intro Kscaft hKscaft
          have HKscaft := Lib.hid hKscaft
          clear hKscaft
          go_wp2_with fail
          refine HKscaft.out.out _ _ (fun h => by simp at h) ?_
          refine tillK_done (by kernel_rfl) ?_
          go_wp2_with fail
          go_meet
          exact ⟨x6, x7, A2, _, rfl, rfl, rfl, HTA.out.fin ne es ev ef nb _ rfl⟩
        · intro Ksa hKsa
          have HKsa := Lib.hid hKsa
          clear hKsa
          go_wp2_with fail
          obtain ⟨vsa, hvsa⟩ : ∃ V, vs.alloc (.cells #[.int .i64 0, .string ⟨#[]⟩, .int .u64 0, .bool false, .bool false] 41) = V := ⟨_, rfl⟩
          obtain ⟨x7, hx7⟩ : ∃ x, vs.heap.size = x := ⟨_, rfl⟩
          have hbsa : Below vs.heap.size vs vsa := by rw [← hvsa]; go_grown
          have Hx7 := Lib.hid (show KB vsa x7 anK from hvsa ▸ KB.new5 hx7.symm _ _ _ _ _ _)
          have HLx7 := Lib.hid (show wr.heap.size ≤ x7 from by have := HBs.out.size; omega)
          have HEx7 := Lib.hid hx7
          have HGsa := Lib.hid (show vsa.heap.size = x7 + 1 from by rw [← hvsa, ← hx7]; simp)
          have HBsa := Lib.hid (HBs.out.trans (hbsa.mono HBs.out.size))
          have HCsa := Lib.hid hbsa
          rw [hvsa, hx7]
          clear hvsa hx7 hbsa
          refine HKsa.out.out _ _ (fun _ => HBsa.out) ?_
          have Ssa : Below wr.heap.size wr vsa := HBsa.out
          refine tillK_step (i := 5) (by kernel_rfl) rfl (by rfl) ?_
          intro Ksac hKsac
          have HKsac := Lib.hid hKsac
          clear hKsac
          go_wp2_with fail
          refine (HDO.out _ HBsa.out).mono ?_
          rintro e vsac ⟨A2, rfl, hmsac, hlsac, hbsac⟩
          rw [HAN.out]
          have HM2 := Lib.hid hmsac
          have HL2 := Lib.hid (show ∀ y ∈ A2.om, LI y.a vsa.heap.size vsac.heap.size from hlsac)
          have HBsac := Lib.hid (HBsa.out.trans (hbsac.mono HBsa.out.size))
          have HCsac := Lib.hid hbsac
          clear hmsac hlsac hbsac
          dsimp only
          refine HKsac.out.out _ _ (fun _ => HBsac.out) ?_
          have Ssac : Below wr.heap.size wr vsac := HBsac.out
          refine tillK_take (i := 6) (v := .tuple #[.agg #[.slice A2.a L2.length A2.c], .agg #[.int .i64 (ne : Nat), .string es, .int .u64 ev, .bool ef, .bool nb]]) rfl (by kernel_rfl) (by kernel_rfl) (by kernel_rfl) (by kernel_rfl) (by kernel_rfl) (by kernel_rfl) (fun _ _ _ h => h) (Or.inl ⟨by rfl, ?hysac_6⟩) (by assumption) ?restsac_6
          case hysac_6 =>
            intro w' hb'
            go_simp
          try simp only [List.getElem_toArray, List.getElem_cons_succ, List.getElem_cons_zero, Act.put, List.setIfInBounds_toArray, List.set_cons_zero, List.set_cons_succ]
          refine tillK_take (i := 7) (v := .agg #[.slice A2.a L2.length A2.c]) rfl (by kernel_rfl) (by kernel_rfl) (by kernel_rfl) (by kernel_rfl) (by kernel_rfl) (by kernel_rfl) (fun _ _ _ h => h) (Or.inl ⟨by rfl, ?hysac_7⟩) (by assumption) ?restsac_7
          case hysac_7 =>
            intro w' hb'
            go_simp
          try simp only [List.getElem_toArray, List.getElem_cons_succ, List.getElem_cons_zero, Act.put, List.setIfInBounds_toArray, List.set_cons_zero, List.set_cons_succ]
          refine tillK_take (i := 8) (v := .agg #[.int .i64 (ne : Nat), .string es, .int .u64 ev, .bool ef, .bool nb]) rfl (by kernel_rfl) (by kernel_rfl) (by kernel_rfl) (by kernel_rfl) (by kernel_rfl) (by kernel_rfl) (fun _ _ _ h => h) (Or.inl ⟨by rfl, ?hysac_8⟩) (by assumption) ?restsac_8
          case hysac_8 =>
            intro w' hb'
            go_simp
          try simp only [List.getElem_toArray, List.getElem_cons_succ, List.getElem_cons_zero, Act.put, List.setIfInBounds_toArray, List.set_cons_zero, List.set_cons_succ]
          have HTA := Lib.hid (show TwAc W wr vsac x8 x6 x7 L L2 A A2 from by
            have ss := HCs.out.size
            have ssa := HCsa.out.size
            have ssac := HCsac.out.size
            have h6 := HEx6.out
            have h7 := HEx7.out
            have g9 := HGs.out
            have g10 := HGsa.out
            exact ⟨HLB.out, HM2.out, ((Hx6.out).later HCsa.out).later HCsac.out, (Hx7.out).later HCsac.out, fun y hy => (HL2.out y hy).ne (by omega), HLx6.out, HLx7.out, by omega, HBsac.out⟩)
          obtain ⟨u0, e0⟩ := HTA.out.k6.so 0 (by decide)
          obtain ⟨v0, g0⟩ := HTA.out.k7.so 0 (by decide)
          obtain ⟨v1, g1⟩ := HTA.out.k7.so 1 (by decide)
          obtain ⟨v2, g2⟩ := HTA.out.k7.so 2 (by decide)
          obtain ⟨v3, g3⟩ := HTA.out.k7.so 3 (by decide)
          obtain ⟨v4, g4⟩ := HTA.out.k7.so 4 (by decide)
          have f6 := HTA.out.k6.fz
          have f7 := HTA.out.k7.fz
          have N67 := HTA.out.n67
          refine tillK_step (i := 11) (by kernel_rfl) rfl (by rfl) ?_
          intro Ksacfs hKsacfs
          have HKsacfs := Lib.hid hKsacfs
          clear hKsacfs
          go_wp2_with fail
          refine HKsacfs.out.out _ _ (fun _ => HBsac.out.grown (sc_one _ _ _ _) HBsac.out.size (fun z e => by cases e; exact HLx6.out)) ?_
          refine tillK_step (i := 12) (by kernel_rfl) rfl (by rfl) ?_
          intro Ksacft hKsacft
          have HKsacft := Lib.hid hKsacft
          clear hKsacft
          go_wp2_with fail
          refine HKsacft.out.out _ _ (fun h => by simp at h) ?_
          refine tillK_done (by kernel_rfl) ?_
          go_wp2_with fail
          go_meet
          exact ⟨x6, x7, A2, _, rfl, rfl, rfl, HTA.out.fin ne es ev ef nb _ rfl⟩
      · intro Ka hKa
        have HKa := Lib.hid hKa
        clear hKa
        go_wp2_with fail
        obtain ⟨va, hva⟩ : ∃ V, wd.alloc (.cells #[.int .i64 0, .string ⟨#[]⟩, .int .u64 0, .bool false, .bool false] 41) = V := ⟨_, rfl⟩
        obtain ⟨x7, hx7⟩ : ∃ x, wd.heap.size = x := ⟨_, rfl⟩
        have hba : Below wd.heap.size wd va := by rw [← hva]; go_grown
        have Hx7 := Lib.hid (show KB va x7 anK from hva ▸ KB.new5 hx7.symm _ _ _ _ _ _)
        have HLx7 := Lib.hid (show wr.heap.size ≤ x7 from by have := HBd.out.size; omega)
        have HEx7 := Lib.hid hx7
        have HGa := Lib.hid (show va.heap.size = x7 + 1 from by rw [← hva, ← hx7]; simp)
        have HBa := Lib.hid (HBd.out.trans (hba.mono HBd.out.size))
        have HCa := Lib.hid hba
        rw [hva, hx7]
        clear hva hx7 hba
        refine HKa.out.out _ _ (fun _ => HBa.out) ?_
        have Sa : Below wr.heap.size wr va := HBa.out
        refine tillK_step2 (i := 5) (j := 9) (by kernel_rfl) rfl rfl (by rfl) (by rfl) ?_ ?_
        · intro Kac hKac
          have HKac := Lib.hid hKac
          clear hKac
          go_wp2_with fail
          refine (HDO.out _ HBa.out).mono ?_
          rintro e vac ⟨A2, rfl, hmac, hlac, hbac⟩
          rw [HAN.out]
          have HM2 := Lib.hid hmac
          have HL2 := Lib.hid (show ∀ y ∈ A2.om, LI y.a va.heap.size vac.heap.size from hlac)
          have HBac := Lib.hid (HBa.out.trans (hbac.mono HBa.out.size))
          have HCac := Lib.hid hbac
          clear hmac hlac hbac
          dsimp only
          refine HKac.out.out _ _ (fun _ => HBac.out) ?_
          have Sac : Below wr.heap.size wr vac := HBac.out
          refine tillK_take (i := 6) (v := .tuple #[.agg #[.slice A2.a L2.length A2.c], .agg #[.int .i64 (ne : Nat), .string es, .int .u64 ev, .bool ef, .bool nb]]) rfl (by kernel_rfl) (by kernel_rfl) (by kernel_rfl) (by kernel_rfl) (by kernel_rfl) (by kernel_rfl) (fun _ _ _ h => h) (Or.inl ⟨by rfl, ?hyac_6⟩) (by assumption) ?restac_6
          case hyac_6 =>
            intro w' hb'
            go_simp
          try simp only [List.getElem_toArray, List.getElem_cons_succ, List.getElem_cons_zero, Act.put, List.setIfInBounds_toArray, List.set_cons_zero, List.set_cons_succ]
          refine tillK_take (i := 7) (v := .agg #[.slice A2.a L2.length A2.c]) rfl (by kernel_rfl) (by kernel_rfl) (by kernel_rfl) (by kernel_rfl) (by kernel_rfl) (by kernel_rfl) (fun _ _ _ h => h) (Or.inl ⟨by rfl, ?hyac_7⟩) (by assumption) ?restac_7
          case hyac_7 =>
            intro w' hb'
            go_simp
          try simp only [List.getElem_toArray, List.getElem_cons_succ, List.getElem_cons_zero, Act.put, List.setIfInBounds_toArray, List.set_cons_zero, List.set_cons_succ]
          refine tillK_take (i := 8) (v := .agg #[.int .i64 (ne : Nat), .string es, .int .u64 ev, .bool ef, .bool nb]) rfl (by kernel_rfl) (by kernel_rfl) (by kernel_rfl) (by kernel_rfl) (by kernel_rfl) (by kernel_rfl) (fun _ _ _ h => h) (Or.inl ⟨by rfl, ?hyac_8⟩) (by assumption) ?restac_8
          case hyac_8 =>
            intro w' hb'
            go_simp
          try simp only [List.getElem_toArray, List.getElem_cons_succ, List.getElem_cons_zero, Act.put, List.setIfInBounds_toArray, List.set_cons_zero, List.set_cons_succ]
          refine tillK_step (i := 9) (by kernel_rfl) rfl (by rfl) ?_
          intro Kacs hKacs
          have HKacs := Lib.hid hKacs
          clear hKacs
          go_wp2_with fail
          obtain ⟨vacs, hvacs⟩ : ∃ V, vac.alloc (.cells #[.slice none 0 0] 24) = V := ⟨_, rfl⟩
          obtain ⟨x6, hx6⟩ : ∃ x, vac.heap.size = x := ⟨_, rfl⟩
          have hbacs : Below vac.heap.size vac vacs := by rw [← hvacs]; go_grown
          have Hx6 := Lib.hid (show KB vacs x6 [1] from hvacs ▸ KB.new1 hx6.symm _ _)
          have HLx6 := Lib.hid (show wr.heap.size ≤ x6 from by have := HBac.out.size; omega)
          have HEx6 := Lib.hid hx6
          have HGacs := Lib.hid (show vacs.heap.size = x6 + 1 from by rw [← hvacs, ← hx6]; simp)
          have HBacs := Lib.hid (HBac.out.trans (hbacs.mono HBac.out.size))
          have HCacs := Lib.hid hbacs
          rw [hvacs, hx6]
          clear hvacs hx6 hbacs
          refine HKacs.out.out _ _ (fun _ => HBacs.out) ?_
          have Sacs : Below wr.heap.size wr vacs := HBacs.out
          have HTA := Lib.hid (show TwAc W wr vacs x8 x6 x7 L L2 A A2 from by
            have sa := HCa.out.size
            have sac := HCac.out.size
            have sacs := HCacs.out.size
            have h6 := HEx6.out
            have h7 := HEx7.out
            have g9 := HGacs.out
            have g10 := HGa.out
            exact ⟨HLB.out, (HM2.out).later HCacs.out, Hx6.out, ((Hx7.out).later HCac.out).later HCacs.out, fun y hy => (HL2.out y hy).ne (by omega), HLx6.out, HLx7.out, by omega, HBacs.out⟩)
          obtain ⟨u0, e0⟩ := HTA.out.k6.so 0 (by decide)
          obtain ⟨v0, g0⟩ := HTA.out.k7.so 0 (by decide)
          obtain ⟨v1, g1⟩ := HTA.out.k7.so 1 (by decide)
          obtain ⟨v2, g2⟩ := HTA.out.k7.so 2 (by decide)
          obtain ⟨v3, g3⟩ := HTA.out.k7.so 3 (by decide)
          obtain ⟨v4, g4⟩ := HTA.out.k7.so 4 (by decide)
          have f6 := HTA.out.k6.fz
          have f7 := HTA.out.k7.fz
          have N67 := HTA.out.n67
          refine tillK_step (i := 11) (by kernel_rfl) rfl (by rfl) ?_
          intro Kacsfs hKacsfs
          have HKacsfs := Lib.hid hKacsfs
          clear hKacsfs
          go_wp2_with fail
          refine HKacsfs.out.out _ _ (fun _ => HBacs.out.grown (sc_one _ _ _ _) HBacs.out.size (fun z e => by cases e; exact HLx6.out)) ?_
          refine tillK_step (i := 12) (by kernel_rfl) rfl (by rfl) ?_
          intro Kacsft hKacsft
          have HKacsft := Lib.hid hKacsft
          clear hKacsft
          go_wp2_with fail
          refine HKacsft.out.out _ _ (fun h => by simp at h) ?_
          refine tillK_done (by kernel_rfl) ?_
          go_wp2_with fail
          go_meet
          exact ⟨x6, x7, A2, _, rfl, rfl, rfl, HTA.out.fin ne es ev ef nb _ rfl⟩
        · intro Kas hKas
          have HKas := Lib.hid hKas
          clear hKas
          go_wp2_with fail
          obtain ⟨vas, hvas⟩ : ∃ V, va.alloc (.cells #[.slice none 0 0] 24) = V := ⟨_, rfl⟩
          obtain ⟨x6, hx6⟩ : ∃ x, va.heap.size = x := ⟨_, rfl⟩
          have hbas : Below va.heap.size va vas := by rw [← hvas]; go_grown
          have Hx6 := Lib.hid (show KB vas x6 [1] from hvas ▸ KB.new1 hx6.symm _ _)
          have HLx6 := Lib.hid (show wr.heap.size ≤ x6 from by have := HBa.out.size; omega)
          have HEx6 := Lib.hid hx6
          have HGas := Lib.hid (show vas.heap.size = x6 + 1 from by rw [← hvas, ← hx6]; simp)
          have HBas := Lib.hid (HBa.out.trans (hbas.mono HBa.out.size))
          have HCas := Lib.hid hbas
          rw [hvas, hx6]
          clear hvas hx6 hbas
          refine HKas.out.out _ _ (fun _ => HBas.out) ?_
          have Sas : Below wr.heap.size wr vas := HBas.out
          refine tillK_step (i := 5) (by kernel_rfl) rfl (by rfl) ?_
          intro Kasc hKasc
          have HKasc := Lib.hid hKasc
          clear hKasc
          go_wp2_with fail
          refine (HDO.out _ HBas.out).mono ?_
          rintro e vasc ⟨A2, rfl, hmasc, hlasc, hbasc⟩
          rw [HAN.out]
          have HM2 := Lib.hid hmasc
          have HL2 := Lib.hid (show ∀ y ∈ A2.om, LI y.a vas.heap.size vasc.heap.size from hlasc)
          have HBasc := Lib.hid (HBas.out.trans (hbasc.mono HBas.out.size))
          have HCasc := Lib.hid hbasc
          clear hmasc hlasc hbasc
          dsimp only
          refine HKasc.out.out _ _ (fun _ => HBasc.out) ?_
          have Sasc : Below wr.heap.size wr vasc := HBasc.out
          refine tillK_take (i := 6) (v := .tuple #[.agg #[.slice A2.a L2.length A2.c], .agg #[.int .i64 (ne : Nat), .string es, .int .u64 ev, .bool ef, .bool nb]]) rfl (by kernel_rfl) (by kernel_rfl) (by kernel_rfl) (by kernel_rfl) (by kernel_rfl) (by kernel_rfl) (fun _ _ _ h => h) (Or.inl ⟨by rfl, ?hyasc_6⟩) (by assumption) ?restasc_6
          case hyasc_6 =>
            intro w' hb'
            go_simp
          try simp only [List.getElem_toArray, List.getElem_cons_succ, List.getElem_cons_zero, Act.put, List.setIfInBounds_toArray, List.set_cons_zero, List.set_cons_succ]
          refine tillK_take (i := 7) (v := .agg #[.slice A2.a L2.length A2.c]) rfl (by kernel_rfl) (by kernel_rfl) (by kernel_rfl) (by kernel_rfl) (by kernel_rfl) (by kernel_rfl) (fun _ _ _ h => h) (Or.inl ⟨by rfl, ?hyasc_7⟩) (by assumption) ?restasc_7
          case hyasc_7 =>
            intro w' hb'
            go_simp
          try simp only [List.getElem_toArray, List.getElem_cons_succ, List.getElem_cons_zero, Act.put, List.setIfInBounds_toArray, List.set_cons_zero, List.set_cons_succ]
          refine tillK_take (i := 8) (v := .agg #[.int .i64 (ne : Nat), .string es, .int .u64 ev, .bool ef, .bool nb]) rfl (by kernel_rfl) (by kernel_rfl) (by kernel_rfl) (by kernel_rfl) (by kernel_rfl) (by kernel_rfl) (fun _ _ _ h => h) (Or.inl ⟨by rfl, ?hyasc_8⟩) (by assumption) ?restasc_8
          case hyasc_8 =>
            intro w' hb'
            go_simp
          try simp only [List.getElem_toArray, List.getElem_cons_succ, List.getElem_cons_zero, Act.put, List.setIfInBounds_toArray, List.set_cons_zero, List.set_cons_succ]
          have HTA := Lib.hid (show TwAc W wr vasc x8 x6 x7 L L2 A A2 from by
            have sa := HCa.out.size
            have sas := HCas.out.size
            have sasc := HCasc.out.size
            have h6 := HEx6.out
            have h7 := HEx7.out
            have g9 := HGas.out
            have g10 := HGa.out
            exact ⟨HLB.out, HM2.out, (Hx6.out).later HCasc.out, ((Hx7.out).later HCas.out).later HCasc.out, fun y hy => (HL2.out y hy).ne (by omega), HLx6.out, HLx7.out, by omega, HBasc.out⟩)
          obtain ⟨u0, e0⟩ := HTA.out.k6.so 0 (by decide)
          obtain ⟨v0, g0⟩ := HTA.out.k7.so 0 (by decide)
          obtain ⟨v1, g1⟩ := HTA.out.k7.so 1 (by decide)
          obtain ⟨v2, g2⟩ := HTA.out.k7.so 2 (by decide)
          obtain ⟨v3, g3⟩ := HTA.out.k7.so 3 (by decide)
          obtain ⟨v4, g4⟩ := HTA.out.k7.so 4 (by decide)
          have f6 := HTA.out.k6.fz
          have f7 := HTA.out.k7.fz
          have N67 := HTA.out.n67
          refine tillK_step (i := 11) (by kernel_rfl) rfl (by rfl) ?_
          intro Kascfs hKascfs
          have HKascfs := Lib.hid hKascfs
          clear hKascfs
          go_wp2_with fail
          refine HKascfs.out.out _ _ (fun _ => HBasc.out.grown (sc_one _ _ _ _) HBasc.out.size (fun z e => by cases e; exact HLx6.out)) ?_
          refine tillK_step (i := 12) (by kernel_rfl) rfl (by rfl) ?_
          intro Kascft hKascft
          have HKascft := Lib.hid hKascft
          clear hKascft
          go_wp2_with fail
          refine HKascft.out.out _ _ (fun h => by simp at h) ?_
          refine tillK_done (by kernel_rfl) ?_
          go_wp2_with fail
          go_meet
          exact ⟨x6, x7, A2, _, rfl, rfl, rfl, HTA.out.fin ne es ev ef nb _ rfl⟩
    case rest =>
      obtain ⟨x6, x7, A2, V, rfl, rfl, rfl, hT⟩ := hcut
      have HTW := Lib.hid hT
      have HBV := Lib.hid (HB.out.trans (hT.b.mono HB.out.size))
      have hst := td_step HLS.out.ok HTD0.out ⟨yk, ⟨ya, yi⟩, yp, yc⟩
      rw [HEQ.out] at hst
      simp only at hst
      have HTD := Lib.hid hst.2
      have HTN := Lib.hid hst.1
      clear hst
      have HPV := Lib.hid (HPS.out V hT.b)
      clear hT
      obtain ⟨p0, p1, p2, _, _, p5, _⟩ := HPV.out
      obtain ⟨_, q0, q4⟩ := HTW.out.an
      obtain ⟨_, t0, t1⟩ := HT.out V HBV.out
      simp only at t0 t1
      by_cases he : (⟨ya, yi⟩ : Tx) = ⟨ta, ti⟩
      case neg =>
        rcases tx_ne he with g | ⟨g0, g⟩
        · clear he
          simp only at g
          go_wp2_with fail
          go_quiet (fail)
          have HN6 := Lib.hid (HTW.out.new.later (below_drewN (Below.refl V.heap.size V) nq))
          have HO6 := Lib.hid (HTW.out.old.later (below_drewN (Below.refl V.heap.size V) nq))
          have HA6 := Lib.hid (HTW.out.an.later (below_drewN (Below.refl V.heap.size V) nq))
          have HB6 := Lib.hid (below_drewN HBV.out nq)
          obtain ⟨X, hX⟩ : ∃ X, V.drewN nq = X := ⟨_, rfl⟩
          rw [hX] at HN6 HO6 HA6 HB6 ⊢
          clear hX p0 p1 p2 p5 q0 q4 t0 t1
          obtain ⟨_, q0, q4⟩ := HA6.out
          obtain ⟨_, t0, t1⟩ := HT.out X HB6.out
          simp only at t0 t1
          have c6 := HN6.out.c0
          have HFD := Lib.hid (rFind_any L2 A2 ⟨ta, ti⟩ (by have := HST.out.len; omega) X HN6.out.m)
          go_wp2_with fail
          refine HFD.out.mono ?_
          intro e w5 hf
          obtain ⟨y, rfl, ey, _, _, hb5⟩ := hf.uni HN6.out.m (fun x hx => by have := HST.out.parts x hx; omega)
          obtain ⟨fo, hfo⟩ : ∃ f, fndC ⟨ta, ti⟩ L2 = f := ⟨_, rfl⟩
          have HTE := Lib.hid (show td = true → fo.isSome = true ∧ y.x.st = if cm then 1 else 2 from fun h => by
            have h2 := HTD.out h
            rw [ey, hfo]
            unfold stC at h2
            rw [hfo] at h2
            cases fo with
            | none => cases h2
            | some d => exact ⟨rfl, Option.some.inj h2⟩)
          rw [hfo]
          obtain ⟨ob, hob⟩ : ∃ b, fo.isSome = b := ⟨_, rfl⟩
          rw [hob] at HTE ⊢
          have HB7 := Lib.hid (HB6.out.trans (hb5.mono HB6.out.size))
          have hN7 := HN6.out.later hb5
          have hO7 := HO6.out.later hb5
          clear hf ey hfo hob hb5 c6 q0 q4 t0 t1
          obtain ⟨⟨⟨da, di⟩, dp, ds⟩, dl, dc⟩ := y
          simp only at HTE
          have hba : Below w5.heap.size w5 (w5.alloc (.cells #[.int .u64 (da : Nat), .int .u64 (di : Nat), .slice dl dp.length dc, .int .i64 ds] 31)) := (Below.refl _ _).alloc (Nat.le_refl _) _
          have hN8 := hN7.later hba
          have hO8 := hO7.later hba
          have d6 := hN8.c0
          have o8 := hO8.c0
          have oz := hO8.kb.fz
          have HNX := Lib.hid (hO8.put hN8.m)
          have hWx : W.heap.size ≤ x8 := hO8.l
          have HBX := Lib.hid (show Below W.heap.size W ((w5.alloc (.cells #[.int .u64 (da : Nat), .int .u64 (di : Nat), .slice dl dp.length dc, .int .i64 ds] 31)).setCell ⟨x8, 0, none⟩ (.slice A2.a L2.length A2.c)) from by
            have h1 := HB7.out.trans (hba.mono HB7.out.size)
            exact h1.grown (sc_one _ _ _ _) h1.size (fun z e => by cases e; exact hWx))
          clear hba hN7 hO7 hN8 hO8 hWx
          cases td
          · go_wp2_with fail
            go_roundw
            case rel => exact ⟨k + 1, L2, A2, false, cm, HLT.out, rfl, rfl, by go_num, HST.out, HTD.out, HNX.out, HBX.out⟩
            case measure => have := HLT.out; simp [intOf]; omega
          · obtain ⟨rfl, hds⟩ := HTE.out rfl
            have ds0 : (ds == 0) = false := by rw [hds]; cases cm <;> rfl
            have ds1 : (ds == 1) = cm := by rw [hds]; cases cm <;> rfl
            have dsn : (cm != cm) = false := by simp
            clear hds
            go_wp2_with fail
            go_roundw
            case rel => exact ⟨k + 1, L2, A2, true, cm, HLT.out, rfl, rfl, by go_num, HST.out, HTD.out, HNX.out, HBX.out⟩
            case measure => have := HLT.out; simp [intOf]; omega
        · clear he
          simp only at g0 g
          have g0' : ((ya : Int) == (ta : Int)) = true := by simp; omega
          go_wp2_with fail
          go_quiet (fail)
          have HN6 := Lib.hid (HTW.out.new.later (below_drewN (Below.refl V.heap.size V) nq))
          have HO6 := Lib.hid (HTW.out.old.later (below_drewN (Below.refl V.heap.size V) nq))
          have HA6 := Lib.hid (HTW.out.an.later (below_drewN (Below.refl V.heap.size V) nq))
          have HB6 := Lib.hid (below_drewN HBV.out nq)
          obtain ⟨X, hX⟩ : ∃ X, V.drewN nq = X := ⟨_, rfl⟩
          rw [hX] at HN6 HO6 HA6 HB6 ⊢
          clear hX p0 p1 p2 p5 q0 q4 t0 t1
          obtain ⟨_, q0, q4⟩ := HA6.out
          obtain ⟨_, t0, t1⟩ := HT.out X HB6.out
          simp only at t0 t1
          have c6 := HN6.out.c0
          have HFD := Lib.hid (rFind_any L2 A2 ⟨ta, ti⟩ (by have := HST.out.len; omega) X HN6.out.m)
          go_wp2_with fail
          refine HFD.out.mono ?_
          intro e w5 hf
          obtain ⟨y, rfl, ey, _, _, hb5⟩ := hf.uni HN6.out.m (fun x hx => by have := HST.out.parts x hx; omega)
          obtain ⟨fo, hfo⟩ : ∃ f, fndC ⟨ta, ti⟩ L2 = f := ⟨_, rfl⟩
          have HTE := Lib.hid (show td = true → fo.isSome = true ∧ y.x.st = if cm then 1 else 2 from fun h => by
            have h2 := HTD.out h
            rw [ey, hfo]
            unfold stC at h2
            rw [hfo] at h2
            cases fo with
            | none => cases h2
            | some d => exact ⟨rfl, Option.some.inj h2⟩)
          rw [hfo]
          obtain ⟨ob, hob⟩ : ∃ b, fo.isSome = b := ⟨_, rfl⟩
          rw [hob] at HTE ⊢
          have HB7 := Lib.hid (HB6.out.trans (hb5.mono HB6.out.size))
          have hN7 := HN6.out.later hb5
          have hO7 := HO6.out.later hb5
          clear hf ey hfo hob hb5 c6 q0 q4 t0 t1
          obtain ⟨⟨⟨da, di⟩, dp, ds⟩, dl, dc⟩ := y
          simp only at HTE
          have hba : Below w5.heap.size w5 (w5.alloc (.cells #[.int .u64 (da : Nat), .int .u64 (di : Nat), .slice dl dp.length dc, .int .i64 ds] 31)) := (Below.refl _ _).alloc (Nat.le_refl _) _
          have hN8 := hN7.later hba
          have hO8 := hO7.later hba
          have d6 := hN8.c0
          have o8 := hO8.c0
          have oz := hO8.kb.fz
          have HNX := Lib.hid (hO8.put hN8.m)
          have hWx : W.heap.size ≤ x8 := hO8.l
          have HBX := Lib.hid (show Below W.heap.size W ((w5.alloc (.cells #[.int .u64 (da : Nat), .int .u64 (di : Nat), .slice dl dp.length dc, .int .i64 ds] 31)).setCell ⟨x8, 0, none⟩ (.slice A2.a L2.length A2.c)) from by
            have h1 := HB7.out.trans (hba.mono HB7.out.size)
            exact h1.grown (sc_one _ _ _ _) h1.size (fun z e => by cases e; exact hWx))
          clear hba hN7 hO7 hN8 hO8 hWx
          cases td
          · go_wp2_with fail
            go_roundw
            case rel => exact ⟨k + 1, L2, A2, false, cm, HLT.out, rfl, rfl, by go_num, HST.out, HTD.out, HNX.out, HBX.out⟩
            case measure => have := HLT.out; simp [intOf]; omega
          · obtain ⟨rfl, hds⟩ := HTE.out rfl
            have ds0 : (ds == 0) = false := by rw [hds]; cases cm <;> rfl
            have ds1 : (ds == 1) = cm := by rw [hds]; cases cm <;> rfl
            have dsn : (cm != cm) = false := by simp
            clear hds
            go_wp2_with fail
            go_roundw
            case rel => exact ⟨k + 1, L2, A2, true, cm, HLT.out, rfl, rfl, by go_num, HST.out, HTD.out, HNX.out, HBX.out⟩
            case measure => have := HLT.out; simp [intOf]; omega
      have hya : ya = ta := by cases he; rfl
      have hyi : yi = ti := by cases he; rfl
      clear he
      subst hya hyi
      by_cases k67 : yk = 6 ∨ yk = 7
      case neg =>
        have g6 : (yk == 6) = false := by simp; omega
        have g7 : (yk == 7) = false := by simp; omega
        clear k67
        go_wp2_with fail
        go_quiet (fail)
        have HN6 := Lib.hid (HTW.out.new.later (below_drewN (Below.refl V.heap.size V) nq))
        have HO6 := Lib.hid (HTW.out.old.later (below_drewN (Below.refl V.heap.size V) nq))
        have HA6 := Lib.hid (HTW.out.an.later (below_drewN (Below.refl V.heap.size V) nq))
        have HB6 := Lib.hid (below_drewN HBV.out nq)
        obtain ⟨X, hX⟩ : ∃ X, V.drewN nq = X := ⟨_, rfl⟩
        rw [hX] at HN6 HO6 HA6 HB6 ⊢
        clear hX p0 p1 p2 p5 q0 q4 t0 t1
        obtain ⟨_, q0, q4⟩ := HA6.out
        obtain ⟨_, t0, t1⟩ := HT.out X HB6.out
        simp only at t0 t1
        have c6 := HN6.out.c0
        have HFD := Lib.hid (rFind_any L2 A2 ⟨ya, yi⟩ (by have := HST.out.len; omega) X HN6.out.m)
        go_wp2_with fail
        refine HFD.out.mono ?_
        intro e w5 hf
        obtain ⟨y, rfl, ey, _, _, hb5⟩ := hf.uni HN6.out.m (fun x hx => by have := HST.out.parts x hx; omega)
        obtain ⟨fo, hfo⟩ : ∃ f, fndC ⟨ya, yi⟩ L2 = f := ⟨_, rfl⟩
        have HTE := Lib.hid (show td = true → fo.isSome = true ∧ y.x.st = if cm then 1 else 2 from fun h => by
          have h2 := HTD.out h
          rw [ey, hfo]
          unfold stC at h2
          rw [hfo] at h2
          cases fo with
          | none => cases h2
          | some d => exact ⟨rfl, Option.some.inj h2⟩)
        rw [hfo]
        obtain ⟨ob, hob⟩ : ∃ b, fo.isSome = b := ⟨_, rfl⟩
        rw [hob] at HTE ⊢
        have HB7 := Lib.hid (HB6.out.trans (hb5.mono HB6.out.size))
        have hN7 := HN6.out.later hb5
        have hO7 := HO6.out.later hb5
        clear hf ey hfo hob hb5 c6 q0 q4 t0 t1
        obtain ⟨⟨⟨da, di⟩, dp, ds⟩, dl, dc⟩ := y
        simp only at HTE
        have hba : Below w5.heap.size w5 (w5.alloc (.cells #[.int .u64 (da : Nat), .int .u64 (di : Nat), .slice dl dp.length dc, .int .i64 ds] 31)) := (Below.refl _ _).alloc (Nat.le_refl _) _
        have hN8 := hN7.later hba
        have hO8 := hO7.later hba
        have d6 := hN8.c0
        have o8 := hO8.c0
        have oz := hO8.kb.fz
        have HNX := Lib.hid (hO8.put hN8.m)
        have hWx : W.heap.size ≤ x8 := hO8.l
        have HBX := Lib.hid (show Below W.heap.size W ((w5.alloc (.cells #[.int .u64 (da : Nat), .int .u64 (di : Nat), .slice dl dp.length dc, .int .i64 ds] 31)).setCell ⟨x8, 0, none⟩ (.slice A2.a L2.length A2.c)) from by
          have h1 := HB7.out.trans (hba.mono HB7.out.size)
          exact h1.grown (sc_one _ _ _ _) h1.size (fun z e => by cases e; exact hWx))
        clear hba hN7 hO7 hN8 hO8 hWx
        cases td
        · go_wp2_with fail
          go_roundw
          case rel => exact ⟨k + 1, L2, A2, false, cm, HLT.out, rfl, rfl, by go_num, HST.out, HTD.out, HNX.out, HBX.out⟩
          case measure => have := HLT.out; simp [intOf]; omega
        · obtain ⟨rfl, hds⟩ := HTE.out rfl
          have ds0 : (ds == 0) = false := by rw [hds]; cases cm <;> rfl
          have ds1 : (ds == 1) = cm := by rw [hds]; cases cm <;> rfl
          have dsn : (cm != cm) = false := by simp
          clear hds
          go_wp2_with fail
          go_roundw
          case rel => exact ⟨k + 1, L2, A2, true, cm, HLT.out, rfl, rfl, by go_num, HST.out, HTD.out, HNX.out, HBX.out⟩
          case measure => have := HLT.out; simp [intOf]; omega
      by_cases hne : ne = 0
      case neg =>
        have g0 : ((ne : Int) == 0) = false := by simp; omega
        clear hne
        rcases k67 with rfl | rfl
        · go_wp2_with fail
          go_quiet (fail)
          have HN6 := Lib.hid (HTW.out.new.later (below_drewN (Below.refl V.heap.size V) nq))
          have HO6 := Lib.hid (HTW.out.old.later (below_drewN (Below.refl V.heap.size V) nq))
          have HA6 := Lib.hid (HTW.out.an.later (below_drewN (Below.refl V.heap.size V) nq))
          have HB6 := Lib.hid (below_drewN HBV.out nq)
          obtain ⟨X, hX⟩ : ∃ X, V.drewN nq = X := ⟨_, rfl⟩
          rw [hX] at HN6 HO6 HA6 HB6 ⊢
          clear hX p0 p1 p2 p5 q0 q4 t0 t1
          obtain ⟨_, q0, q4⟩ := HA6.out
          obtain ⟨_, t0, t1⟩ := HT.out X HB6.out
          simp only at t0 t1
          have c6 := HN6.out.c0
          have HFD := Lib.hid (rFind_any L2 A2 ⟨ya, yi⟩ (by have := HST.out.len; omega) X HN6.out.m)
          go_wp2_with fail
          refine HFD.out.mono ?_
          intro e w5 hf
          obtain ⟨y, rfl, ey, _, _, hb5⟩ := hf.uni HN6.out.m (fun x hx => by have := HST.out.parts x hx; omega)
          obtain ⟨fo, hfo⟩ : ∃ f, fndC ⟨ya, yi⟩ L2 = f := ⟨_, rfl⟩
          have HTE := Lib.hid (show td = true → fo.isSome = true ∧ y.x.st = if cm then 1 else 2 from fun h => by
            have h2 := HTD.out h
            rw [ey, hfo]
            unfold stC at h2
            rw [hfo] at h2
            cases fo with
            | none => cases h2
            | some d => exact ⟨rfl, Option.some.inj h2⟩)
          rw [hfo]
          obtain ⟨ob, hob⟩ : ∃ b, fo.isSome = b := ⟨_, rfl⟩
          rw [hob] at HTE ⊢
          have HB7 := Lib.hid (HB6.out.trans (hb5.mono HB6.out.size))
          have hN7 := HN6.out.later hb5
          have hO7 := HO6.out.later hb5
          clear hf ey hfo hob hb5 c6 q0 q4 t0 t1
          obtain ⟨⟨⟨da, di⟩, dp, ds⟩, dl, dc⟩ := y
          simp only at HTE
          have hba : Below w5.heap.size w5 (w5.alloc (.cells #[.int .u64 (da : Nat), .int .u64 (di : Nat), .slice dl dp.length dc, .int .i64 ds] 31)) := (Below.refl _ _).alloc (Nat.le_refl _) _
          have hN8 := hN7.later hba
          have hO8 := hO7.later hba
          have d6 := hN8.c0
          have o8 := hO8.c0
          have oz := hO8.kb.fz
          have HNX := Lib.hid (hO8.put hN8.m)
          have hWx : W.heap.size ≤ x8 := hO8.l
          have HBX := Lib.hid (show Below W.heap.size W ((w5.alloc (.cells #[.int .u64 (da : Nat), .int .u64 (di : Nat), .slice dl dp.length dc, .int .i64 ds] 31)).setCell ⟨x8, 0, none⟩ (.slice A2.a L2.length A2.c)) from by
            have h1 := HB7.out.trans (hba.mono HB7.out.size)
            exact h1.grown (sc_one _ _ _ _) h1.size (fun z e => by cases e; exact hWx))
          clear hba hN7 hO7 hN8 hO8 hWx
          cases td
          · go_wp2_with fail
            go_roundw
            case rel => exact ⟨k + 1, L2, A2, false, cm, HLT.out, rfl, rfl, by go_num, HST.out, HTD.out, HNX.out, HBX.out⟩
            case measure => have := HLT.out; simp [intOf]; omega
          · obtain ⟨rfl, hds⟩ := HTE.out rfl
            have ds0 : (ds == 0) = false := by rw [hds]; cases cm <;> rfl
            have ds1 : (ds == 1) = cm := by rw [hds]; cases cm <;> rfl
            have dsn : (cm != cm) = false := by simp
            clear hds
            go_wp2_with fail
            go_roundw
            case rel => exact ⟨k + 1, L2, A2, true, cm, HLT.out, rfl, rfl, by go_num, HST.out, HTD.out, HNX.out, HBX.out⟩
            case measure => have := HLT.out; simp [intOf]; omega
        · go_wp2_with fail
          go_quiet (fail)
          have HN6 := Lib.hid (HTW.out.new.later (below_drewN (Below.refl V.heap.size V) nq))
          have HO6 := Lib.hid (HTW.out.old.later (below_drewN (Below.refl V.heap.size V) nq))
          have HA6 := Lib.hid (HTW.out.an.later (below_drewN (Below.refl V.heap.size V) nq))
          have HB6 := Lib.hid (below_drewN HBV.out nq)
          obtain ⟨X, hX⟩ : ∃ X, V.drewN nq = X := ⟨_, rfl⟩
          rw [hX] at HN6 HO6 HA6 HB6 ⊢
          clear hX p0 p1 p2 p5 q0 q4 t0 t1
          obtain ⟨_, q0, q4⟩ := HA6.out
          obtain ⟨_, t0, t1⟩ := HT.out X HB6.out
          simp only at t0 t1
          have c6 := HN6.out.c0
          have HFD := Lib.hid (rFind_any L2 A2 ⟨ya, yi⟩ (by have := HST.out.len; omega) X HN6.out.m)
          go_wp2_with fail
          refine HFD.out.mono ?_
          intro e w5 hf
          obtain ⟨y, rfl, ey, _, _, hb5⟩ := hf.uni HN6.out.m (fun x hx => by have := HST.out.parts x hx; omega)
          obtain ⟨fo, hfo⟩ : ∃ f, fndC ⟨ya, yi⟩ L2 = f := ⟨_, rfl⟩
          have HTE := Lib.hid (show td = true → fo.isSome = true ∧ y.x.st = if cm then 1 else 2 from fun h => by
            have h2 := HTD.out h
            rw [ey, hfo]
            unfold stC at h2
            rw [hfo] at h2
            cases fo with
            | none => cases h2
            | some d => exact ⟨rfl, Option.some.inj h2⟩)
          rw [hfo]
          obtain ⟨ob, hob⟩ : ∃ b, fo.isSome = b := ⟨_, rfl⟩
          rw [hob] at HTE ⊢
          have HB7 := Lib.hid (HB6.out.trans (hb5.mono HB6.out.size))
          have hN7 := HN6.out.later hb5
          have hO7 := HO6.out.later hb5
          clear hf ey hfo hob hb5 c6 q0 q4 t0 t1
          obtain ⟨⟨⟨da, di⟩, dp, ds⟩, dl, dc⟩ := y
          simp only at HTE
          have hba : Below w5.heap.size w5 (w5.alloc (.cells #[.int .u64 (da : Nat), .int .u64 (di : Nat), .slice dl dp.length dc, .int .i64 ds] 31)) := (Below.refl _ _).alloc (Nat.le_refl _) _
          have hN8 := hN7.later hba
          have hO8 := hO7.later hba
          have d6 := hN8.c0
          have o8 := hO8.c0
          have oz := hO8.kb.fz
          have HNX := Lib.hid (hO8.put hN8.m)
          have hWx : W.heap.size ≤ x8 := hO8.l
          have HBX := Lib.hid (show Below W.heap.size W ((w5.alloc (.cells #[.int .u64 (da : Nat), .int .u64 (di : Nat), .slice dl dp.length dc, .int .i64 ds] 31)).setCell ⟨x8, 0, none⟩ (.slice A2.a L2.length A2.c)) from by
            have h1 := HB7.out.trans (hba.mono HB7.out.size)
            exact h1.grown (sc_one _ _ _ _) h1.size (fun z e => by cases e; exact hWx))
          clear hba hN7 hO7 hN8 hO8 hWx
          cases td
          · go_wp2_with fail
            go_roundw
            case rel => exact ⟨k + 1, L2, A2, false, cm, HLT.out, rfl, rfl, by go_num, HST.out, HTD.out, HNX.out, HBX.out⟩
            case measure => have := HLT.out; simp [intOf]; omega
          · obtain ⟨rfl, hds⟩ := HTE.out rfl
            have ds0 : (ds == 0) = false := by rw [hds]; cases cm <;> rfl
            have ds1 : (ds == 1) = cm := by rw [hds]; cases cm <;> rfl
            have dsn : (cm != cm) = false := by simp
            clear hds
            go_wp2_with fail
            go_roundw
            case rel => exact ⟨k + 1, L2, A2, true, cm, HLT.out, rfl, rfl, by go_num, HST.out, HTD.out, HNX.out, HBX.out⟩
            case measure => have := HLT.out; simp [intOf]; omega
      subst hne
      obtain ⟨htn, htd2⟩ := HTN.out ⟨rfl, k67, rfl⟩
      have HTX := Lib.hid htd2
      have HTC := Lib.hid htn
      clear htn htd2
      rcases k67 with rfl | rfl
      · go_wp2_with fail
        go_quiet (fail)
        have HN6 := Lib.hid (HTW.out.new.later (below_drewN (Below.refl V.heap.size V) nq))
        have HO6 := Lib.hid (HTW.out.old.later (below_drewN (Below.refl V.heap.size V) nq))
        have HA6 := Lib.hid (HTW.out.an.later (below_drewN (Below.refl V.heap.size V) nq))
        have HB6 := Lib.hid (below_drewN HBV.out nq)
        obtain ⟨X, hX⟩ : ∃ X, V.drewN nq = X := ⟨_, rfl⟩
        rw [hX] at HN6 HO6 HA6 HB6 ⊢
        clear hX p0 p1 p2 p5 q0 q4 t0 t1
        obtain ⟨_, q0, q4⟩ := HA6.out
        cases td
        case true =>
          obtain rfl : nb = cm := HTC.out rfl
          have gn : (nb != nb) = false := by simp
          obtain ⟨_, t0, t1⟩ := HT.out X HB6.out
          simp only at t0 t1
          have c6 := HN6.out.c0
          have HFD := Lib.hid (rFind_any L2 A2 ⟨ya, yi⟩ (by have := HST.out.len; omega) X HN6.out.m)
          go_wp2_with fail
          refine HFD.out.mono ?_
          intro e w5 hf
          obtain ⟨y, rfl, ey, _, _, hb5⟩ := hf.uni HN6.out.m (fun x hx => by have := HST.out.parts x hx; omega)
          obtain ⟨fo, hfo⟩ : ∃ f, fndC ⟨ya, yi⟩ L2 = f := ⟨_, rfl⟩
          have HTE := Lib.hid (show true = true → fo.isSome = true ∧ y.x.st = if nb then 1 else 2 from fun h => by
            have h2 := HTX.out h
            rw [ey, hfo]
            unfold stC at h2
            rw [hfo] at h2
            cases fo with
            | none => cases h2
            | some d => exact ⟨rfl, Option.some.inj h2⟩)
          rw [hfo]
          obtain ⟨ob, hob⟩ : ∃ b, fo.isSome = b := ⟨_, rfl⟩
          rw [hob] at HTE ⊢
          have HB7 := Lib.hid (HB6.out.trans (hb5.mono HB6.out.size))
          have hN7 := HN6.out.later hb5
          have hO7 := HO6.out.later hb5
          clear hf ey hfo hob hb5 c6 q0 q4 t0 t1
          obtain ⟨⟨⟨da, di⟩, dp, ds⟩, dl, dc⟩ := y
          simp only at HTE
          have hba : Below w5.heap.size w5 (w5.alloc (.cells #[.int .u64 (da : Nat), .int .u64 (di : Nat), .slice dl dp.length dc, .int .i64 ds] 31)) := (Below.refl _ _).alloc (Nat.le_refl _) _
          have hN8 := hN7.later hba
          have hO8 := hO7.later hba
          have d6 := hN8.c0
          have o8 := hO8.c0
          have oz := hO8.kb.fz
          have HNX := Lib.hid (hO8.put hN8.m)
          have hWx : W.heap.size ≤ x8 := hO8.l
          have HBX := Lib.hid (show Below W.heap.size W ((w5.alloc (.cells #[.int .u64 (da : Nat), .int .u64 (di : Nat), .slice dl dp.length dc, .int .i64 ds] 31)).setCell ⟨x8, 0, none⟩ (.slice A2.a L2.length A2.c)) from by
            have h1 := HB7.out.trans (hba.mono HB7.out.size)
            exact h1.grown (sc_one _ _ _ _) h1.size (fun z e => by cases e; exact hWx))
          clear hba hN7 hO7 hN8 hO8 hWx
          obtain ⟨rfl, hds⟩ := HTE.out trivial
          have ds0 : (ds == 0) = false := by rw [hds]; cases nb <;> rfl
          have ds1 : (ds == 1) = nb := by rw [hds]; cases nb <;> rfl
          have dsn : (nb != nb) = false := by simp
          clear hds
          go_wp2_with fail
          go_roundw
          case rel => exact ⟨k + 1, L2, A2, true, nb, HLT.out, rfl, rfl, by go_num, HST.out, HTX.out, HNX.out, HBX.out⟩
          case measure => have := HLT.out; simp [intOf]; omega
        obtain ⟨_, t0, t1⟩ := HT.out X HB6.out
        simp only at t0 t1
        have c6 := HN6.out.c0
        have HFD := Lib.hid (rFind_any L2 A2 ⟨ya, yi⟩ (by have := HST.out.len; omega) X HN6.out.m)
        go_wp2_with fail
        refine HFD.out.mono ?_
        intro e w5 hf
        obtain ⟨y, rfl, ey, _, _, hb5⟩ := hf.uni HN6.out.m (fun x hx => by have := HST.out.parts x hx; omega)
        obtain ⟨fo, hfo⟩ : ∃ f, fndC ⟨ya, yi⟩ L2 = f := ⟨_, rfl⟩
        have HTE := Lib.hid (show true = true → fo.isSome = true ∧ y.x.st = if nb then 1 else 2 from fun h => by
          have h2 := HTX.out h
          rw [ey, hfo]
          unfold stC at h2
          rw [hfo] at h2
          cases fo with
          | none => cases h2
          | some d => exact ⟨rfl, Option.some.inj h2⟩)
        rw [hfo]
        obtain ⟨ob, hob⟩ : ∃ b, fo.isSome = b := ⟨_, rfl⟩
        rw [hob] at HTE ⊢
        have HB7 := Lib.hid (HB6.out.trans (hb5.mono HB6.out.size))
        have hN7 := HN6.out.later hb5
        have hO7 := HO6.out.later hb5
        clear hf ey hfo hob hb5 c6 q0 q4 t0 t1
        obtain ⟨⟨⟨da, di⟩, dp, ds⟩, dl, dc⟩ := y
        simp only at HTE
        have hba : Below w5.heap.size w5 (w5.alloc (.cells #[.int .u64 (da : Nat), .int .u64 (di : Nat), .slice dl dp.length dc, .int .i64 ds] 31)) := (Below.refl _ _).alloc (Nat.le_refl _) _
        have hN8 := hN7.later hba
        have hO8 := hO7.later hba
        have d6 := hN8.c0
        have o8 := hO8.c0
        have oz := hO8.kb.fz
        have HNX := Lib.hid (hO8.put hN8.m)
        have hWx : W.heap.size ≤ x8 := hO8.l
        have HBX := Lib.hid (show Below W.heap.size W ((w5.alloc (.cells #[.int .u64 (da : Nat), .int .u64 (di : Nat), .slice dl dp.length dc, .int .i64 ds] 31)).setCell ⟨x8, 0, none⟩ (.slice A2.a L2.length A2.c)) from by
          have h1 := HB7.out.trans (hba.mono HB7.out.size)
          exact h1.grown (sc_one _ _ _ _) h1.size (fun z e => by cases e; exact hWx))
        clear hba hN7 hO7 hN8 hO8 hWx
        obtain ⟨rfl, hds⟩ := HTE.out trivial
        have ds0 : (ds == 0) = false := by rw [hds]; cases nb <;> rfl
        have ds1 : (ds == 1) = nb := by rw [hds]; cases nb <;> rfl
        have dsn : (nb != nb) = false := by simp
        clear hds
        go_wp2_with fail
        go_roundw
        case rel => exact ⟨k + 1, L2, A2, true, nb, HLT.out, rfl, rfl, by go_num, HST.out, HTX.out, HNX.out, HBX.out⟩
        case measure => have := HLT.out; simp [intOf]; omega
      · go_wp2_with fail
        go_quiet (fail)
        have HN6 := Lib.hid (HTW.out.new.later (below_drewN (Below.refl V.heap.size V) nq))
        have HO6 := Lib.hid (HTW.out.old.later (below_drewN (Below.refl V.heap.size V) nq))
        have HA6 := Lib.hid (HTW.out.an.later (below_drewN (Below.refl V.heap.size V) nq))
        have HB6 := Lib.hid (below_drewN HBV.out nq)
        obtain ⟨X, hX⟩ : ∃ X, V.drewN nq = X := ⟨_, rfl⟩
        rw [hX] at HN6 HO6 HA6 HB6 ⊢
        clear hX p0 p1 p2 p5 q0 q4 t0 t1
        obtain ⟨_, q0, q4⟩ := HA6.out
        cases td
        case true =>
          obtain rfl : nb = cm := HTC.out rfl
          have gn : (nb != nb) = false := by simp
          obtain ⟨_, t0, t1⟩ := HT.out X HB6.out
          simp only at t0 t1
          have c6 := HN6.out.c0
          have HFD := Lib.hid (rFind_any L2 A2 ⟨ya, yi⟩ (by have := HST.out.len; omega) X HN6.out.m)
          go_wp2_with fail
          refine HFD.out.mono ?_
          intro e w5 hf
          obtain ⟨y, rfl, ey, _, _, hb5⟩ := hf.uni HN6.out.m (fun x hx => by have := HST.out.parts x hx; omega)
          obtain ⟨fo, hfo⟩ : ∃ f, fndC ⟨ya, yi⟩ L2 = f := ⟨_, rfl⟩
          have HTE := Lib.hid (show true = true → fo.isSome = true ∧ y.x.st = if nb then 1 else 2 from fun h => by
            have h2 := HTX.out h
            rw [ey, hfo]
            unfold stC at h2
            rw [hfo] at h2
            cases fo with
            | none => cases h2
            | some d => exact ⟨rfl, Option.some.inj h2⟩)
          rw [hfo]
          obtain ⟨ob, hob⟩ : ∃ b, fo.isSome = b := ⟨_, rfl⟩
          rw [hob] at HTE ⊢
          have HB7 := Lib.hid (HB6.out.trans (hb5.mono HB6.out.size))
          have hN7 := HN6.out.later hb5
          have hO7 := HO6.out.later hb5
          clear hf ey hfo hob hb5 c6 q0 q4 t0 t1
          obtain ⟨⟨⟨da, di⟩, dp, ds⟩, dl, dc⟩ := y
          simp only at HTE
          have hba : Below w5.heap.size w5 (w5.alloc (.cells #[.int .u64 (da : Nat), .int .u64 (di : Nat), .slice dl dp.length dc, .int .i64 ds] 31)) := (Below.refl _ _).alloc (Nat.le_refl _) _
          have hN8 := hN7.later hba
          have hO8 := hO7.later hba
          have d6 := hN8.c0
          have o8 := hO8.c0
          have oz := hO8.kb.fz
          have HNX := Lib.hid (hO8.put hN8.m)
          have hWx : W.heap.size ≤ x8 := hO8.l
          have HBX := Lib.hid (show Below W.heap.size W ((w5.alloc (.cells #[.int .u64 (da : Nat), .int .u64 (di : Nat), .slice dl dp.length dc, .int .i64 ds] 31)).setCell ⟨x8, 0, none⟩ (.slice A2.a L2.length A2.c)) from by
            have h1 := HB7.out.trans (hba.mono HB7.out.size)
            exact h1.grown (sc_one _ _ _ _) h1.size (fun z e => by cases e; exact hWx))
          clear hba hN7 hO7 hN8 hO8 hWx
          obtain ⟨rfl, hds⟩ := HTE.out trivial
          have ds0 : (ds == 0) = false := by rw [hds]; cases nb <;> rfl
          have ds1 : (ds == 1) = nb := by rw [hds]; cases nb <;> rfl
          have dsn : (nb != nb) = false := by simp
          clear hds
          go_wp2_with fail
          go_roundw
          case rel => exact ⟨k + 1, L2, A2, true, nb, HLT.out, rfl, rfl, by go_num, HST.out, HTX.out, HNX.out, HBX.out⟩
          case measure => have := HLT.out; simp [intOf]; omega
        obtain ⟨_, t0, t1⟩ := HT.out X HB6.out
        simp only at t0 t1
        have c6 := HN6.out.c0
        have HFD := Lib.hid (rFind_any L2 A2 ⟨ya, yi⟩ (by have := HST.out.len; omega) X HN6.out.m)
        go_wp2_with fail
        refine HFD.out.mono ?_
        intro e w5 hf
        obtain ⟨y, rfl, ey, _, _, hb5⟩ := hf.uni HN6.out.m (fun x hx => by have := HST.out.parts x hx; omega)
        obtain ⟨fo, hfo⟩ : ∃ f, fndC ⟨ya, yi⟩ L2 = f := ⟨_, rfl⟩
        have HTE := Lib.hid (show true = true → fo.isSome = true ∧ y.x.st = if nb then 1 else 2 from fun h => by
          have h2 := HTX.out h
          rw [ey, hfo]
          unfold stC at h2
          rw [hfo] at h2
          cases fo with
          | none => cases h2
          | some d => exact ⟨rfl, Option.some.inj h2⟩)
        rw [hfo]
        obtain ⟨ob, hob⟩ : ∃ b, fo.isSome = b := ⟨_, rfl⟩
        rw [hob] at HTE ⊢
        have HB7 := Lib.hid (HB6.out.trans (hb5.mono HB6.out.size))
        have hN7 := HN6.out.later hb5
        have hO7 := HO6.out.later hb5
        clear hf ey hfo hob hb5 c6 q0 q4 t0 t1
        obtain ⟨⟨⟨da, di⟩, dp, ds⟩, dl, dc⟩ := y
        simp only at HTE
        have hba : Below w5.heap.size w5 (w5.alloc (.cells #[.int .u64 (da : Nat), .int .u64 (di : Nat), .slice dl dp.length dc, .int .i64 ds] 31)) := (Below.refl _ _).alloc (Nat.le_refl _) _
        have hN8 := hN7.later hba
        have hO8 := hO7.later hba
        have d6 := hN8.c0
        have o8 := hO8.c0
        have oz := hO8.kb.fz
        have HNX := Lib.hid (hO8.put hN8.m)
        have hWx : W.heap.size ≤ x8 := hO8.l
        have HBX := Lib.hid (show Below W.heap.size W ((w5.alloc (.cells #[.int .u64 (da : Nat), .int .u64 (di : Nat), .slice dl dp.length dc, .int .i64 ds] 31)).setCell ⟨x8, 0, none⟩ (.slice A2.a L2.length A2.c)) from by
          have h1 := HB7.out.trans (hba.mono HB7.out.size)
          exact h1.grown (sc_one _ _ _ _) h1.size (fun z e => by cases e; exact hWx))
        clear hba hN7 hO7 hN8 hO8 hWx
        obtain ⟨rfl, hds⟩ := HTE.out trivial
        have ds0 : (ds == 0) = false := by rw [hds]; cases nb <;> rfl
        have ds1 : (ds == 1) = nb := by rw [hds]; cases nb <;> rfl
        have dsn : (nb != nb) = false := by simp
        clear hds
        go_wp2_with fail
        go_roundw
        case rel => exact ⟨k + 1, L2, A2, true, nb, HLT.out, rfl, rfl, by go_num, HST.out, HTX.out, HNX.out, HBX.out⟩
        case measure => have := HLT.out; simp [intOf]; omega
end Go.Proofs.Ytohhkacnjhgamaa
