/- The law ShardStays. -/
import Derived.Test.YthgnecggdlamfaaTg
import Derived.Test.YthgnecggdlamfaaYy
import Derived.Deep.RegionLaw
namespace Go.Proofs.Ythgnecggdlamfaa
open Go.RowKit

set_option maxRecDepth 100000 in
set_option maxHeartbeats 8000000 in
theorem law_ShardStays {TT : World → Prop} (P : PShard TT) (n c : Nat) (a : Option Addr) (L : List OrM) (W : World) (I : OrIn W a n c L) (hT : TT W) :
    Calls Try.prog 4 #[.slice a n c] W fun e w' => e = .returned (.bool true) ∧ Below W.heap.size W w' := by
  have HS := Lib.hid (shown_any P W hT)
  have HD := Lib.hid (fun (s : Sh) (A : Sad) (o : Odr) (a : Option Addr) (c : Nat) (q : Option Addr) (qn qc : Nat) w' (hb : Below W.heap.size W w') => P.doo s A o a c q qn qc w' (P.below hT hb))
  have HI := Lib.hid I
  have HB0 := Lib.hid (Below.refl W.heap.size W)
  have hnb : n ≤ 140737488351232 := by have := I.room; omega
  have HRT := Lib.hid (fun (s : Sh) (A : Sad) (w : World) (hM : ShM w s A) (zs : SzS s) => rRightS_any s A w hM zs)
  clear P I hT
  go_enter Try.func4, Try.ntmps4
  go_wp2_with fail
  refine HS.out.mono ?_
  rintro e w1 ⟨rfl, hb1⟩
  obtain ⟨W1, hW1⟩ : ∃ W1, w1.alloc (.cells #[.slice none 0 0, .slice none 0 0, .slice none 0 0, .slice none 0 0, .int .u64 0] 28) = W1 := ⟨_, rfl⟩
  obtain ⟨hb2, hl⟩ := LB.new (w0 := W) hb1.size hW1
  obtain ⟨x8, hx8⟩ : ∃ x, w1.heap.size = x := ⟨_, rfl⟩
  rw [hx8] at hl
  have HL0 := Lib.hid hl
  have HBL := Lib.hid (hb1.trans (hb2.mono hb1.size))
  have HW1 := Lib.hid hW1
  have HX8 := Lib.hid hx8
  clear hb1 hb2 hl hW1 hx8
  go_wp2_with fail
  rw [HW1.out, HX8.out]
  go_loopw [5] (fun iv wr => ∃ (k : Nat) (s : Sh) (A : Sad), k ≤ n ∧ iv = .int .i64 k ∧ LS s k ∧ LB W wr x8 s A ∧ Below W.heap.size W wr) (fun iv _ => n - (intOf iv).toNat)
  case atStart => exact ⟨0, nilS, nilA, Nat.zero_le _, rfl, LS.nil, HL0.out, HBL.out⟩
  case round =>
    obtain ⟨k, s, A, hk, rfl, hls, hl, hB⟩ := hrel
    have HLS := Lib.hid hls
    have HLB := Lib.hid hl
    have HB := Lib.hid hB
    clear hls hl hB
    by_cases hlt : k < n
    case neg =>
      have i1 : ¬ (k : Int) < (n : Int) := by omega
      go_wp2_with fail
      go_ret
      exact ⟨by first | rfl | simp, HB.out⟩
    have HLT := Lib.hid hlt
    obtain ⟨y, hy⟩ : ∃ y, L[k]? = some y := ⟨_, List.getElem?_eq_getElem (by rw [HI.out.hlen]; exact hlt)⟩
    have i0 : (0 : Int) ≤ (k : Int) := by omega
    have i1 : (k : Int) < (n : Int) := by omega
    obtain ⟨hp1, hp2, hp3, hp4⟩ := HI.out.puts y (List.mem_of_getElem? hy)
    have HPB := Lib.hid HB.out
    obtain ⟨b, off, eb, hbl, p0, p1, p2, p3, p4, p5, p6⟩ := HI.out.cells HPB.out hy
    subst eb
    have HST := Lib.hid (HLS.out.step hp4 (by omega))
    have HDO := Lib.hid (fun (w' : World) (h : Below wr.heap.size wr w') => HD.out s A y.x y.a y.c y.qa y.qn y.qc w' (HPB.out.trans (h.mono HPB.out.size)) (HLB.out.later h).m (HLS.out.szs (by omega)) hp4 hp2 hp3 (hp1.later (HPB.out.trans (h.mono HPB.out.size))))
    have HVX := (do_okS HLS.out.ok y.x (by have := HLS.out.ver; omega)).2.1
    obtain ⟨⟨yk, ⟨ya, yi⟩, yy, yp, yc⟩, aa, ac, qa, qn, qc⟩ := y
    simp only at p0 p1 p2 p3 p4 p5 p6 HST HDO HVX
    obtain ⟨r, hr⟩ : ∃ r, doS s ⟨yk, ⟨ya, yi⟩, yy, yp, yc⟩ = r := ⟨_, rfl⟩
    rw [hr] at HST HDO HVX
    obtain ⟨s', n'⟩ := r
    simp only at HST HVX
    clear hr hy hp1 hp2 hp3 hp4
    have HVV := Lib.hid HVX
    clear HVX
    have HPS := Lib.hid (fun (w' : World) (hb' : Below wr.heap.size wr w') => (show w'.cell? ⟨b, off + k * 7, none⟩ = some (.int .i64 yk) ∧ w'.cell? ⟨b, off + k * 7 + 1, none⟩ = some (.int .u64 (ya : Nat)) ∧ w'.cell? ⟨b, off + k * 7 + 2, none⟩ = some (.int .u64 (yi : Nat)) ∧ w'.cell? ⟨b, off + k * 7 + 3, none⟩ = some (.string yy) ∧ w'.cell? ⟨b, off + k * 7 + 4, none⟩ = some (.slice aa yp.length ac) ∧ w'.cell? ⟨b, off + k * 7 + 5, none⟩ = some (.bool yc) ∧ w'.cell? ⟨b, off + k * 7 + 6, none⟩ = some (.slice qa qn qc) from by
      have hlt' : b < wr.heap.size := Nat.lt_of_lt_of_le hbl HPB.out.size
      have f : ∀ i v, wr.cell? ⟨b, i, none⟩ = some v → w'.cell? ⟨b, i, none⟩ = some v := fun i v e => (hb'.cell (p := ⟨b, i, none⟩) hlt').trans e
      exact ⟨f _ _ p0, f _ _ p1, f _ _ p2, f _ _ p3, f _ _ p4, f _ _ p5, f _ _ p6⟩))
    clear p0 p1 p2 p3 p4 p5 p6
    go_upto_region 6 with (fail)
    go_cut [6, 7] (fun uv av wx => ∃ (x6 x7 : Nat) (A2 : Sad) (V : World), V = wx ∧ uv = .pointer (some ⟨x6, 0, none⟩) ∧ av = .pointer (some ⟨x7, 0, none⟩) ∧ TwB W wr wx x8 x6 x7 s s' A A2 n')
    case first =>
      refine tillK_begin (S := fun w' => Below wr.heap.size wr w') (k := 12) (by kernel_rfl) ?_
      obtain ⟨wd, hwd⟩ : ∃ V, wr.drew = V := ⟨_, rfl⟩
      have HBd := Lib.hid (show Below wr.heap.size wr wd from hwd ▸ (Below.refl _ _).drew)
      rw [hwd]
      clear hwd
      have Sd : Below wr.heap.size wr wd := HBd.out
      refine tillK_take (i := 0) (v := shV s A) rfl (by kernel_rfl) (by kernel_rfl) (by kernel_rfl) (by kernel_rfl) (by kernel_rfl) (by kernel_rfl) (fun _ _ _ h => h) (Or.inl ⟨by rfl, ?hyr_0⟩) (by assumption) ?restr_0
      case hyr_0 =>
        intro w' hb'
        obtain ⟨_, c0, c1, c2, c3, c4, _, _⟩ := HLB.out.later hb'
        go_simp
      try simp only [Act.put, List.setIfInBounds_toArray]
      refine tillK_take (i := 1) (v := .slice (some ⟨b, off, none⟩) n c) rfl (by kernel_rfl) (by kernel_rfl) (by kernel_rfl) (by kernel_rfl) (by kernel_rfl) (by kernel_rfl) (fun _ _ _ h => h) (Or.inl ⟨by rfl, ?hyr_1⟩) (by assumption) ?restr_1
      case hyr_1 =>
        intro w' hb'
        go_simp
      try simp only [Act.put]
      refine tillK_take (i := 2) (v := .int .i64 k) rfl (by kernel_rfl) (by kernel_rfl) (by kernel_rfl) (by kernel_rfl) (by kernel_rfl) (by kernel_rfl) (fun _ _ _ h => h) (Or.inl ⟨by rfl, ?hyr_2⟩) (by assumption) ?restr_2
      case hyr_2 =>
        intro w' hb'
        go_simp
      try simp only [Act.put]
      refine tillK_take (i := 3) (v := .pointer (some ⟨b, off + k * 7, none⟩)) rfl (by kernel_rfl) (by kernel_rfl) (by kernel_rfl) (by kernel_rfl) (by kernel_rfl) (by kernel_rfl) (fun _ _ _ h => h) (Or.inl ⟨by rfl, ?hyr_3⟩) (by assumption) ?restr_3
      case hyr_3 =>
        intro w' hb'
        go_simp
      try simp only [Act.put]
      refine tillK_take (i := 4) (v := odrV ⟨yk, ⟨ya, yi⟩, yy, yp, yc⟩ aa ac (.slice qa qn qc)) rfl (by kernel_rfl) (by kernel_rfl) (by kernel_rfl) (by kernel_rfl) (by kernel_rfl) (by kernel_rfl) (fun _ _ _ h => h) (Or.inl ⟨by rfl, ?hyr_4⟩) (by assumption) ?restr_4
      case hyr_4 =>
        intro w' hb'
        obtain ⟨p0', p1', p2', p3', p4', p5', p6'⟩ := HPS.out w' hb'
        go_simp
      try simp only [Act.put]
      refine tillK_step3 (i := 5) (j := 9) (m := 10) (by kernel_rfl) rfl rfl rfl (by rfl) (by rfl) (by rfl) ?_ ?_ ?_
      · intro Kc hKc
        have HKc := Lib.hid hKc
        clear hKc
        go_wp2_with fail
        refine (HDO.out _ HBd.out).mono ?_
        rintro e vc ⟨A2, rfl, hmc, hbc⟩
        have HM2 := Lib.hid hmc
        have HBc := Lib.hid (HBd.out.trans (hbc.mono HBd.out.size))
        have HCc := Lib.hid hbc
        clear hmc hbc
        dsimp only
        refine HKc.out.out _ _ (fun _ => HBc.out) ?_
        have Sc : Below wr.heap.size wr vc := HBc.out
        refine tillK_take (i := 6) (v := .tuple #[shV s' A2, ansV n']) rfl (by kernel_rfl) (by kernel_rfl) (by kernel_rfl) (by kernel_rfl) (by kernel_rfl) (by kernel_rfl) (fun _ _ _ h => h) (Or.inl ⟨by rfl, ?hyc_6⟩) (by assumption) ?restc_6
        case hyc_6 =>
          intro w' hb'
          go_simp
        try simp only [Act.put, List.setIfInBounds_toArray]
        refine tillK_take (i := 7) (v := shV s' A2) rfl (by kernel_rfl) (by kernel_rfl) (by kernel_rfl) (by kernel_rfl) (by kernel_rfl) (by kernel_rfl) (fun _ _ _ h => h) (Or.inl ⟨by rfl, ?hyc_7⟩) (by assumption) ?restc_7
        case hyc_7 =>
          intro w' hb'
          go_simp
        try simp only [Act.put]
        refine tillK_take (i := 8) (v := ansV n') rfl (by kernel_rfl) (by kernel_rfl) (by kernel_rfl) (by kernel_rfl) (by kernel_rfl) (by kernel_rfl) (fun _ _ _ h => h) (Or.inl ⟨by rfl, ?hyc_8⟩) (by assumption) ?restc_8
        case hyc_8 =>
          intro w' hb'
          go_simp
        try simp only [Act.put]
        refine tillK_step2 (i := 9) (j := 10) (by kernel_rfl) rfl rfl (by rfl) (by rfl) ?_ ?_
        · intro Kcs hKcs
          have HKcs := Lib.hid hKcs
          clear hKcs
          go_wp2_with fail
          obtain ⟨vcs, hvcs⟩ : ∃ V, vc.alloc (.cells #[.slice none 0 0, .slice none 0 0, .slice none 0 0, .slice none 0 0, .int .u64 0] 28) = V := ⟨_, rfl⟩
          obtain ⟨x6, hx6⟩ : ∃ x, vc.heap.size = x := ⟨_, rfl⟩
          have hbcs : Below vc.heap.size vc vcs := by rw [← hvcs]; go_grown
          have Hx6 := Lib.hid (show KB vcs x6 sK from hvcs ▸ KB.new5 hx6.symm _ _ _ _ _ _)
          have HLx6 := Lib.hid (show wr.heap.size ≤ x6 from by have := HBc.out.size; omega)
          have HEx6 := Lib.hid hx6
          have HGcs := Lib.hid (show vcs.heap.size = x6 + 1 from by rw [← hvcs, ← hx6]; simp)
          have HBcs := Lib.hid (HBc.out.trans (hbcs.mono HBc.out.size))
          have HCcs := Lib.hid hbcs
          rw [hvcs, hx6]
          clear hvcs hx6 hbcs
          refine HKcs.out.out _ _ (fun _ => HBcs.out) ?_
          have Scs : Below wr.heap.size wr vcs := HBcs.out
          refine tillK_step (i := 10) (by kernel_rfl) rfl (by rfl) ?_
          intro Kcsa hKcsa
          have HKcsa := Lib.hid hKcsa
          clear hKcsa
          go_wp2_with fail
          obtain ⟨vcsa, hvcsa⟩ : ∃ V, vcs.alloc (.cells #[.int .i64 0, .string ⟨#[]⟩, .int .u64 0, .bool false, .bool false] 38) = V := ⟨_, rfl⟩
          obtain ⟨x7, hx7⟩ : ∃ x, vcs.heap.size = x := ⟨_, rfl⟩
          have hbcsa : Below vcs.heap.size vcs vcsa := by rw [← hvcsa]; go_grown
          have Hx7 := Lib.hid (show KB vcsa x7 aK from hvcsa ▸ KB.new5 hx7.symm _ _ _ _ _ _)
          have HLx7 := Lib.hid (show wr.heap.size ≤ x7 from by have := HBcs.out.size; omega)
          have HEx7 := Lib.hid hx7
          have HGcsa := Lib.hid (show vcsa.heap.size = x7 + 1 from by rw [← hvcsa, ← hx7]; simp)
          have HBcsa := Lib.hid (HBcs.out.trans (hbcsa.mono HBcs.out.size))
          have HCcsa := Lib.hid hbcsa
          rw [hvcsa, hx7]
          clear hvcsa hx7 hbcsa
          refine HKcsa.out.out _ _ (fun _ => HBcsa.out) ?_
          have Scsa : Below wr.heap.size wr vcsa := HBcsa.out
          have HTA := Lib.hid (show TwA W wr vcsa x8 x6 x7 s s' A A2 from ⟨HLB.out, ((HM2.out).later HCcs.out).later HCcsa.out, (Hx6.out).later HCcsa.out, Hx7.out, HLx6.out, HLx7.out, by
            have h6 := HEx6.out
            have h7 := HEx7.out
            have g9 := HGcs.out
            have g10 := HGcsa.out
            have sc := HCc.out.size
            have scs := HCcs.out.size
            have scsa := HCcsa.out.size
            omega, HBcsa.out⟩)
          obtain ⟨u0, e0⟩ := HTA.out.k6.so 0 (by decide)
          obtain ⟨u1, e1⟩ := HTA.out.k6.so 1 (by decide)
          obtain ⟨u2, e2⟩ := HTA.out.k6.so 2 (by decide)
          obtain ⟨u3, e3⟩ := HTA.out.k6.so 3 (by decide)
          obtain ⟨u4, e4⟩ := HTA.out.k6.so 4 (by decide)
          obtain ⟨v0, g0⟩ := HTA.out.k7.so 0 (by decide)
          obtain ⟨v1, g1⟩ := HTA.out.k7.so 1 (by decide)
          obtain ⟨v2, g2⟩ := HTA.out.k7.so 2 (by decide)
          obtain ⟨v3, g3⟩ := HTA.out.k7.so 3 (by decide)
          obtain ⟨v4, g4⟩ := HTA.out.k7.so 4 (by decide)
          have f6 := HTA.out.k6.fz
          have f7 := HTA.out.k7.fz
          have N67 := HTA.out.n67
          refine tillK_step (i := 11) (by kernel_rfl) rfl (by rfl) ?_
          intro Kcsafs hKcsafs
          have HKcsafs := Lib.hid hKcsafs
          clear hKcsafs
          go_wp2_with fail
          refine HKcsafs.out.out _ _ (fun _ => below_set5s (v0 := _) (v1 := _) (v2 := _) (v3 := _) (v4 := _) HBcsa.out HLx6.out) ?_
          refine tillK_step (i := 12) (by kernel_rfl) rfl (by rfl) ?_
          intro Kcsaft hKcsaft
          have HKcsaft := Lib.hid hKcsaft
          clear hKcsaft
          go_wp2_with fail
          refine HKcsaft.out.out _ _ (fun h => by simp at h) ?_
          refine tillK_done (by kernel_rfl) ?_
          go_wp2_with fail
          go_meet
          exact ⟨x6, x7, A2, _, rfl, rfl, rfl, HTA.out.fin n' _ rfl⟩
        · intro Kca hKca
          have HKca := Lib.hid hKca
          clear hKca
          go_wp2_with fail
          obtain ⟨vca, hvca⟩ : ∃ V, vc.alloc (.cells #[.int .i64 0, .string ⟨#[]⟩, .int .u64 0, .bool false, .bool false] 38) = V := ⟨_, rfl⟩
          obtain ⟨x7, hx7⟩ : ∃ x, vc.heap.size = x := ⟨_, rfl⟩
          have hbca : Below vc.heap.size vc vca := by rw [← hvca]; go_grown
          have Hx7 := Lib.hid (show KB vca x7 aK from hvca ▸ KB.new5 hx7.symm _ _ _ _ _ _)
          have HLx7 := Lib.hid (show wr.heap.size ≤ x7 from by have := HBc.out.size; omega)
          have HEx7 := Lib.hid hx7
          have HGca := Lib.hid (show vca.heap.size = x7 + 1 from by rw [← hvca, ← hx7]; simp)
          have HBca := Lib.hid (HBc.out.trans (hbca.mono HBc.out.size))
          have HCca := Lib.hid hbca
          rw [hvca, hx7]
          clear hvca hx7 hbca
          refine HKca.out.out _ _ (fun _ => HBca.out) ?_
          have Sca : Below wr.heap.size wr vca := HBca.out
          refine tillK_step (i := 9) (by kernel_rfl) rfl (by rfl) ?_
          intro Kcas hKcas
          have HKcas := Lib.hid hKcas
          clear hKcas
          go_wp2_with fail
          obtain ⟨vcas, hvcas⟩ : ∃ V, vca.alloc (.cells #[.slice none 0 0, .slice none 0 0, .slice none 0 0, .slice none 0 0, .int .u64 0] 28) = V := ⟨_, rfl⟩
          obtain ⟨x6, hx6⟩ : ∃ x, vca.heap.size = x := ⟨_, rfl⟩
          have hbcas : Below vca.heap.size vca vcas := by rw [← hvcas]; go_grown
          have Hx6 := Lib.hid (show KB vcas x6 sK from hvcas ▸ KB.new5 hx6.symm _ _ _ _ _ _)
          have HLx6 := Lib.hid (show wr.heap.size ≤ x6 from by have := HBca.out.size; omega)
          have HEx6 := Lib.hid hx6
          have HGcas := Lib.hid (show vcas.heap.size = x6 + 1 from by rw [← hvcas, ← hx6]; simp)
          have HBcas := Lib.hid (HBca.out.trans (hbcas.mono HBca.out.size))
          have HCcas := Lib.hid hbcas
          rw [hvcas, hx6]
          clear hvcas hx6 hbcas
          refine HKcas.out.out _ _ (fun _ => HBcas.out) ?_
          have Scas : Below wr.heap.size wr vcas := HBcas.out
          have HTA := Lib.hid (show TwA W wr vcas x8 x6 x7 s s' A A2 from ⟨HLB.out, ((HM2.out).later HCca.out).later HCcas.out, Hx6.out, (Hx7.out).later HCcas.out, HLx6.out, HLx7.out, by
            have h6 := HEx6.out
            have h7 := HEx7.out
            have g9 := HGcas.out
            have g10 := HGca.out
            have sc := HCc.out.size
            have sca := HCca.out.size
            have scas := HCcas.out.size
            omega, HBcas.out⟩)
          obtain ⟨u0, e0⟩ := HTA.out.k6.so 0 (by decide)
          obtain ⟨u1, e1⟩ := HTA.out.k6.so 1 (by decide)
          obtain ⟨u2, e2⟩ := HTA.out.k6.so 2 (by decide)
          obtain ⟨u3, e3⟩ := HTA.out.k6.so 3 (by decide)
          obtain ⟨u4, e4⟩ := HTA.out.k6.so 4 (by decide)
          obtain ⟨v0, g0⟩ := HTA.out.k7.so 0 (by decide)
          obtain ⟨v1, g1⟩ := HTA.out.k7.so 1 (by decide)
          obtain ⟨v2, g2⟩ := HTA.out.k7.so 2 (by decide)
          obtain ⟨v3, g3⟩ := HTA.out.k7.so 3 (by decide)
          obtain ⟨v4, g4⟩ := HTA.out.k7.so 4 (by decide)
          have f6 := HTA.out.k6.fz
          have f7 := HTA.out.k7.fz
          have N67 := HTA.out.n67
          refine tillK_step (i := 11) (by kernel_rfl) rfl (by rfl) ?_
          intro Kcasfs hKcasfs
          have HKcasfs := Lib.hid hKcasfs
          clear hKcasfs
          go_wp2_with fail
          refine HKcasfs.out.out _ _ (fun _ => below_set5s (v0 := _) (v1 := _) (v2 := _) (v3 := _) (v4 := _) HBcas.out HLx6.out) ?_
          refine tillK_step (i := 12) (by kernel_rfl) rfl (by rfl) ?_
          intro Kcasft hKcasft
          have HKcasft := Lib.hid hKcasft
          clear hKcasft
          go_wp2_with fail
          refine HKcasft.out.out _ _ (fun h => by simp at h) ?_
          refine tillK_done (by kernel_rfl) ?_
          go_wp2_with fail
          go_meet
          exact ⟨x6, x7, A2, _, rfl, rfl, rfl, HTA.out.fin n' _ rfl⟩
      · intro Ks hKs
        have HKs := Lib.hid hKs
        clear hKs
        go_wp2_with fail
        obtain ⟨vs, hvs⟩ : ∃ V, wd.alloc (.cells #[.slice none 0 0, .slice none 0 0, .slice none 0 0, .slice none 0 0, .int .u64 0] 28) = V := ⟨_, rfl⟩
        obtain ⟨x6, hx6⟩ : ∃ x, wd.heap.size = x := ⟨_, rfl⟩
        have hbs : Below wd.heap.size wd vs := by rw [← hvs]; go_grown
        have Hx6 := Lib.hid (show KB vs x6 sK from hvs ▸ KB.new5 hx6.symm _ _ _ _ _ _)
        have HLx6 := Lib.hid (show wr.heap.size ≤ x6 from by have := HBd.out.size; omega)
        have HEx6 := Lib.hid hx6
        have HGs := Lib.hid (show vs.heap.size = x6 + 1 from by rw [← hvs, ← hx6]; simp)
        have HBs := Lib.hid (HBd.out.trans (hbs.mono HBd.out.size))
        have HCs := Lib.hid hbs
        rw [hvs, hx6]
        clear hvs hx6 hbs
        refine HKs.out.out _ _ (fun _ => HBs.out) ?_
        have Ss : Below wr.heap.size wr vs := HBs.out
        refine tillK_step2 (i := 5) (j := 10) (by kernel_rfl) rfl rfl (by rfl) (by rfl) ?_ ?_
        · intro Ksc hKsc
          have HKsc := Lib.hid hKsc
          clear hKsc
          go_wp2_with fail
          refine (HDO.out _ HBs.out).mono ?_
          rintro e vsc ⟨A2, rfl, hmsc, hbsc⟩
          have HM2 := Lib.hid hmsc
          have HBsc := Lib.hid (HBs.out.trans (hbsc.mono HBs.out.size))
          have HCsc := Lib.hid hbsc
          clear hmsc hbsc
          dsimp only
          refine HKsc.out.out _ _ (fun _ => HBsc.out) ?_
          have Ssc : Below wr.heap.size wr vsc := HBsc.out
          refine tillK_take (i := 6) (v := .tuple #[shV s' A2, ansV n']) rfl (by kernel_rfl) (by kernel_rfl) (by kernel_rfl) (by kernel_rfl) (by kernel_rfl) (by kernel_rfl) (fun _ _ _ h => h) (Or.inl ⟨by rfl, ?hysc_6⟩) (by assumption) ?restsc_6
          case hysc_6 =>
            intro w' hb'
            go_simp
          try simp only [Act.put, List.setIfInBounds_toArray]
          refine tillK_take (i := 7) (v := shV s' A2) rfl (by kernel_rfl) (by kernel_rfl) (by kernel_rfl) (by kernel_rfl) (by kernel_rfl) (by kernel_rfl) (fun _ _ _ h => h) (Or.inl ⟨by rfl, ?hysc_7⟩) (by assumption) ?restsc_7
          case hysc_7 =>
            intro w' hb'
            go_simp
          try simp only [Act.put]
          refine tillK_take (i := 8) (v := ansV n') rfl (by kernel_rfl) (by kernel_rfl) (by kernel_rfl) (by kernel_rfl) (by kernel_rfl) (by kernel_rfl) (fun _ _ _ h => h) (Or.inl ⟨by rfl, ?hysc_8⟩) (by assumption) ?restsc_8
          case hysc_8 =>
            intro w' hb'
            go_simp
          try simp only [Act.put]
          refine tillK_step (i := 10) (by kernel_rfl) rfl (by rfl) ?_
          intro Ksca hKsca
          have HKsca := Lib.hid hKsca
          clear hKsca
          go_wp2_with fail
          obtain ⟨vsca, hvsca⟩ : ∃ V, vsc.alloc (.cells #[.int .i64 0, .string ⟨#[]⟩, .int .u64 0, .bool false, .bool false] 38) = V := ⟨_, rfl⟩
          obtain ⟨x7, hx7⟩ : ∃ x, vsc.heap.size = x := ⟨_, rfl⟩
          have hbsca : Below vsc.heap.size vsc vsca := by rw [← hvsca]; go_grown
          have Hx7 := Lib.hid (show KB vsca x7 aK from hvsca ▸ KB.new5 hx7.symm _ _ _ _ _ _)
          have HLx7 := Lib.hid (show wr.heap.size ≤ x7 from by have := HBsc.out.size; omega)
          have HEx7 := Lib.hid hx7
          have HGsca := Lib.hid (show vsca.heap.size = x7 + 1 from by rw [← hvsca, ← hx7]; simp)
          have HBsca := Lib.hid (HBsc.out.trans (hbsca.mono HBsc.out.size))
          have HCsca := Lib.hid hbsca
          rw [hvsca, hx7]
          clear hvsca hx7 hbsca
          refine HKsca.out.out _ _ (fun _ => HBsca.out) ?_
          have Ssca : Below wr.heap.size wr vsca := HBsca.out
          have HTA := Lib.hid (show TwA W wr vsca x8 x6 x7 s s' A A2 from ⟨HLB.out, (HM2.out).later HCsca.out, ((Hx6.out).later HCsc.out).later HCsca.out, Hx7.out, HLx6.out, HLx7.out, by
            have h6 := HEx6.out
            have h7 := HEx7.out
            have g9 := HGs.out
            have g10 := HGsca.out
            have ss := HCs.out.size
            have ssc := HCsc.out.size
            have ssca := HCsca.out.size
            omega, HBsca.out⟩)
          obtain ⟨u0, e0⟩ := HTA.out.k6.so 0 (by decide)
          obtain ⟨u1, e1⟩ := HTA.out.k6.so 1 (by decide)
          obtain ⟨u2, e2⟩ := HTA.out.k6.so 2 (by decide)
          obtain ⟨u3, e3⟩ := HTA.out.k6.so 3 (by decide)
          obtain ⟨u4, e4⟩ := HTA.out.k6.so 4 (by decide)
          obtain ⟨v0, g0⟩ := HTA.out.k7.so 0 (by decide)
          obtain ⟨v1, g1⟩ := HTA.out.k7.so 1 (by decide)
          obtain ⟨v2, g2⟩ := HTA.out.k7.so 2 (by decide)
          obtain ⟨v3, g3⟩ := HTA.out.k7.so 3 (by decide)
          obtain ⟨v4, g4⟩ := HTA.out.k7.so 4 (by decide)
          have f6 := HTA.out.k6.fz
          have f7 := HTA.out.k7.fz
          have N67 := HTA.out.n67
          refine tillK_step (i := 11) (by kernel_rfl) rfl (by rfl) ?_
          intro Kscafs hKscafs
          have HKscafs := Lib.hid hKscafs
          clear hKscafs
          go_wp2_with fail
          refine HKscafs.out.out _ _ (fun _ => below_set5s (v0 := _) (v1 := _) (v2 := _) (v3 := _) (v4 := _) HBsca.out HLx6.out) ?_
          refine tillK_step (i := 12) (by kernel_rfl) rfl (by rfl) ?_
          intro Kscaft hKscaft
          have HKscaft := Lib.hid hKscaft
          clear hKscaft
          go_wp2_with fail
          refine HKscaft.out.out _ _ (fun h => by simp at h) ?_
          refine tillK_done (by kernel_rfl) ?_
          go_wp2_with fail
          go_meet
          exact ⟨x6, x7, A2, _, rfl, rfl, rfl, HTA.out.fin n' _ rfl⟩
        · intro Ksa hKsa
          have HKsa := Lib.hid hKsa
          clear hKsa
          go_wp2_with fail
          obtain ⟨vsa, hvsa⟩ : ∃ V, vs.alloc (.cells #[.int .i64 0, .string ⟨#[]⟩, .int .u64 0, .bool false, .bool false] 38) = V := ⟨_, rfl⟩
          obtain ⟨x7, hx7⟩ : ∃ x, vs.heap.size = x := ⟨_, rfl⟩
          have hbsa : Below vs.heap.size vs vsa := by rw [← hvsa]; go_grown
          have Hx7 := Lib.hid (show KB vsa x7 aK from hvsa ▸ KB.new5 hx7.symm _ _ _ _ _ _)
          have HLx7 := Lib.hid (show wr.heap.size ≤ x7 from by have := HBs.out.size; omega)
          have HEx7 := Lib.hid hx7
          have HGsa := Lib.hid (show vsa.heap.size = x7 + 1 from by rw [← hvsa, ← hx7]; simp)
          have HBsa := Lib.hid (HBs.out.trans (hbsa.mono HBs.out.size))
          have HCsa := Lib.hid hbsa
          rw [hvsa, hx7]
          clear hvsa hx7 hbsa
          refine HKsa.out.out _ _ (fun _ => HBsa.out) ?_
          have Ssa : Below wr.heap.size wr vsa := HBsa.out
          refine tillK_step (i := 5) (by kernel_rfl) rfl (by rfl) ?_
          intro Ksac hKsac
          have HKsac := Lib.hid hKsac
          clear hKsac
          go_wp2_with fail
          refine (HDO.out _ HBsa.out).mono ?_
          rintro e vsac ⟨A2, rfl, hmsac, hbsac⟩
          have HM2 := Lib.hid hmsac
          have HBsac := Lib.hid (HBsa.out.trans (hbsac.mono HBsa.out.size))
          have HCsac := Lib.hid hbsac
          clear hmsac hbsac
          dsimp only
          refine HKsac.out.out _ _ (fun _ => HBsac.out) ?_
          have Ssac : Below wr.heap.size wr vsac := HBsac.out
          refine tillK_take (i := 6) (v := .tuple #[shV s' A2, ansV n']) rfl (by kernel_rfl) (by kernel_rfl) (by kernel_rfl) (by kernel_rfl) (by kernel_rfl) (by kernel_rfl) (fun _ _ _ h => h) (Or.inl ⟨by rfl, ?hysac_6⟩) (by assumption) ?restsac_6
          case hysac_6 =>
            intro w' hb'
            go_simp
          try simp only [Act.put, List.setIfInBounds_toArray]
          refine tillK_take (i := 7) (v := shV s' A2) rfl (by kernel_rfl) (by kernel_rfl) (by kernel_rfl) (by kernel_rfl) (by kernel_rfl) (by kernel_rfl) (fun _ _ _ h => h) (Or.inl ⟨by rfl, ?hysac_7⟩) (by assumption) ?restsac_7
          case hysac_7 =>
            intro w' hb'
            go_simp
          try simp only [Act.put]
          refine tillK_take (i := 8) (v := ansV n') rfl (by kernel_rfl) (by kernel_rfl) (by kernel_rfl) (by kernel_rfl) (by kernel_rfl) (by kernel_rfl) (fun _ _ _ h => h) (Or.inl ⟨by rfl, ?hysac_8⟩) (by assumption) ?restsac_8
          case hysac_8 =>
            intro w' hb'
            go_simp
          try simp only [Act.put]
          have HTA := Lib.hid (show TwA W wr vsac x8 x6 x7 s s' A A2 from ⟨HLB.out, HM2.out, ((Hx6.out).later HCsa.out).later HCsac.out, (Hx7.out).later HCsac.out, HLx6.out, HLx7.out, by
            have h6 := HEx6.out
            have h7 := HEx7.out
            have g9 := HGs.out
            have g10 := HGsa.out
            have ss := HCs.out.size
            have ssa := HCsa.out.size
            have ssac := HCsac.out.size
            omega, HBsac.out⟩)
          obtain ⟨u0, e0⟩ := HTA.out.k6.so 0 (by decide)
          obtain ⟨u1, e1⟩ := HTA.out.k6.so 1 (by decide)
          obtain ⟨u2, e2⟩ := HTA.out.k6.so 2 (by decide)
          obtain ⟨u3, e3⟩ := HTA.out.k6.so 3 (by decide)
          obtain ⟨u4, e4⟩ := HTA.out.k6.so 4 (by decide)
          obtain ⟨v0, g0⟩ := HTA.out.k7.so 0 (by decide)
          obtain ⟨v1, g1⟩ := HTA.out.k7.so 1 (by decide)
          obtain ⟨v2, g2⟩ := HTA.out.k7.so 2 (by decide)
          obtain ⟨v3, g3⟩ := HTA.out.k7.so 3 (by decide)
          obtain ⟨v4, g4⟩ := HTA.out.k7.so 4 (by decide)
          have f6 := HTA.out.k6.fz
          have f7 := HTA.out.k7.fz
          have N67 := HTA.out.n67
          refine tillK_step (i := 11) (by kernel_rfl) rfl (by rfl) ?_
          intro Ksacfs hKsacfs
          have HKsacfs := Lib.hid hKsacfs
          clear hKsacfs
          go_wp2_with fail
          refine HKsacfs.out.out _ _ (fun _ => below_set5s (v0 := _) (v1 := _) (v2 := _) (v3 := _) (v4 := _) HBsac.out HLx6.out) ?_
          refine tillK_step (i := 12) (by kernel_rfl) rfl (by rfl) ?_
          intro Ksacft hKsacft
          have HKsacft := Lib.hid hKsacft
          clear hKsacft
          go_wp2_with fail
          refine HKsacft.out.out _ _ (fun h => by simp at h) ?_
          refine tillK_done (by kernel_rfl) ?_
          go_wp2_with fail
          go_meet
          exact ⟨x6, x7, A2, _, rfl, rfl, rfl, HTA.out.fin n' _ rfl⟩
      · intro Ka hKa
        have HKa := Lib.hid hKa
        clear hKa
        go_wp2_with fail
        obtain ⟨va, hva⟩ : ∃ V, wd.alloc (.cells #[.int .i64 0, .string ⟨#[]⟩, .int .u64 0, .bool false, .bool false] 38) = V := ⟨_, rfl⟩
        obtain ⟨x7, hx7⟩ : ∃ x, wd.heap.size = x := ⟨_, rfl⟩
        have hba : Below wd.heap.size wd va := by rw [← hva]; go_grown
        have Hx7 := Lib.hid (show KB va x7 aK from hva ▸ KB.new5 hx7.symm _ _ _ _ _ _)
        have HLx7 := Lib.hid (show wr.heap.size ≤ x7 from by have := HBd.out.size; omega)
        have HEx7 := Lib.hid hx7
        have HGa := Lib.hid (show va.heap.size = x7 + 1 from by rw [← hva, ← hx7]; simp)
        have HBa := Lib.hid (HBd.out.trans (hba.mono HBd.out.size))
        have HCa := Lib.hid hba
        rw [hva, hx7]
        clear hva hx7 hba
        refine HKa.out.out _ _ (fun _ => HBa.out) ?_
        have Sa : Below wr.heap.size wr va := HBa.out
        refine tillK_step2 (i := 5) (j := 9) (by kernel_rfl) rfl rfl (by rfl) (by rfl) ?_ ?_
        · intro Kac hKac
          have HKac := Lib.hid hKac
          clear hKac
          go_wp2_with fail
          refine (HDO.out _ HBa.out).mono ?_
          rintro e vac ⟨A2, rfl, hmac, hbac⟩
          have HM2 := Lib.hid hmac
          have HBac := Lib.hid (HBa.out.trans (hbac.mono HBa.out.size))
          have HCac := Lib.hid hbac
          clear hmac hbac
          dsimp only
          refine HKac.out.out _ _ (fun _ => HBac.out) ?_
          have Sac : Below wr.heap.size wr vac := HBac.out
          refine tillK_take (i := 6) (v := .tuple #[shV s' A2, ansV n']) rfl (by kernel_rfl) (by kernel_rfl) (by kernel_rfl) (by kernel_rfl) (by kernel_rfl) (by kernel_rfl) (fun _ _ _ h => h) (Or.inl ⟨by rfl, ?hyac_6⟩) (by assumption) ?restac_6
          case hyac_6 =>
            intro w' hb'
            go_simp
          try simp only [Act.put, List.setIfInBounds_toArray]
          refine tillK_take (i := 7) (v := shV s' A2) rfl (by kernel_rfl) (by kernel_rfl) (by kernel_rfl) (by kernel_rfl) (by kernel_rfl) (by kernel_rfl) (fun _ _ _ h => h) (Or.inl ⟨by rfl, ?hyac_7⟩) (by assumption) ?restac_7
          case hyac_7 =>
            intro w' hb'
            go_simp
          try simp only [Act.put]
          refine tillK_take (i := 8) (v := ansV n') rfl (by kernel_rfl) (by kernel_rfl) (by kernel_rfl) (by kernel_rfl) (by kernel_rfl) (by kernel_rfl) (fun _ _ _ h => h) (Or.inl ⟨by rfl, ?hyac_8⟩) (by assumption) ?restac_8
          case hyac_8 =>
            intro w' hb'
            go_simp
          try simp only [Act.put]
          refine tillK_step (i := 9) (by kernel_rfl) rfl (by rfl) ?_
          intro Kacs hKacs
          have HKacs := Lib.hid hKacs
          clear hKacs
          go_wp2_with fail
          obtain ⟨vacs, hvacs⟩ : ∃ V, vac.alloc (.cells #[.slice none 0 0, .slice none 0 0, .slice none 0 0, .slice none 0 0, .int .u64 0] 28) = V := ⟨_, rfl⟩
          obtain ⟨x6, hx6⟩ : ∃ x, vac.heap.size = x := ⟨_, rfl⟩
          have hbacs : Below vac.heap.size vac vacs := by rw [← hvacs]; go_grown
          have Hx6 := Lib.hid (show KB vacs x6 sK from hvacs ▸ KB.new5 hx6.symm _ _ _ _ _ _)
          have HLx6 := Lib.hid (show wr.heap.size ≤ x6 from by have := HBac.out.size; omega)
          have HEx6 := Lib.hid hx6
          have HGacs := Lib.hid (show vacs.heap.size = x6 + 1 from by rw [← hvacs, ← hx6]; simp)
          have HBacs := Lib.hid (HBac.out.trans (hbacs.mono HBac.out.size))
          have HCacs := Lib.hid hbacs
          rw [hvacs, hx6]
          clear hvacs hx6 hbacs
          refine HKacs.out.out _ _ (fun _ => HBacs.out) ?_
          have Sacs : Below wr.heap.size wr vacs := HBacs.out
          have HTA := Lib.hid (show TwA W wr vacs x8 x6 x7 s s' A A2 from ⟨HLB.out, (HM2.out).later HCacs.out, Hx6.out, ((Hx7.out).later HCac.out).later HCacs.out, HLx6.out, HLx7.out, by
            have h6 := HEx6.out
            have h7 := HEx7.out
            have g9 := HGacs.out
            have g10 := HGa.out
            have sa := HCa.out.size
            have sac := HCac.out.size
            have sacs := HCacs.out.size
            omega, HBacs.out⟩)
          obtain ⟨u0, e0⟩ := HTA.out.k6.so 0 (by decide)
          obtain ⟨u1, e1⟩ := HTA.out.k6.so 1 (by decide)
          obtain ⟨u2, e2⟩ := HTA.out.k6.so 2 (by decide)
          obtain ⟨u3, e3⟩ := HTA.out.k6.so 3 (by decide)
          obtain ⟨u4, e4⟩ := HTA.out.k6.so 4 (by decide)
          obtain ⟨v0, g0⟩ := HTA.out.k7.so 0 (by decide)
          obtain ⟨v1, g1⟩ := HTA.out.k7.so 1 (by decide)
          obtain ⟨v2, g2⟩ := HTA.out.k7.so 2 (by decide)
          obtain ⟨v3, g3⟩ := HTA.out.k7.so 3 (by decide)
          obtain ⟨v4, g4⟩ := HTA.out.k7.so 4 (by decide)
          have f6 := HTA.out.k6.fz
          have f7 := HTA.out.k7.fz
          have N67 := HTA.out.n67
          refine tillK_step (i := 11) (by kernel_rfl) rfl (by rfl) ?_
          intro Kacsfs hKacsfs
          have HKacsfs := Lib.hid hKacsfs
          clear hKacsfs
          go_wp2_with fail
          refine HKacsfs.out.out _ _ (fun _ => below_set5s (v0 := _) (v1 := _) (v2 := _) (v3 := _) (v4 := _) HBacs.out HLx6.out) ?_
          refine tillK_step (i := 12) (by kernel_rfl) rfl (by rfl) ?_
          intro Kacsft hKacsft
          have HKacsft := Lib.hid hKacsft
          clear hKacsft
          go_wp2_with fail
          refine HKacsft.out.out _ _ (fun h => by simp at h) ?_
          refine tillK_done (by kernel_rfl) ?_
          go_wp2_with fail
          go_meet
          exact ⟨x6, x7, A2, _, rfl, rfl, rfl, HTA.out.fin n' _ rfl⟩
        · intro Kas hKas
          have HKas := Lib.hid hKas
          clear hKas
          go_wp2_with fail
          obtain ⟨vas, hvas⟩ : ∃ V, va.alloc (.cells #[.slice none 0 0, .slice none 0 0, .slice none 0 0, .slice none 0 0, .int .u64 0] 28) = V := ⟨_, rfl⟩
          obtain ⟨x6, hx6⟩ : ∃ x, va.heap.size = x := ⟨_, rfl⟩
          have hbas : Below va.heap.size va vas := by rw [← hvas]; go_grown
          have Hx6 := Lib.hid (show KB vas x6 sK from hvas ▸ KB.new5 hx6.symm _ _ _ _ _ _)
          have HLx6 := Lib.hid (show wr.heap.size ≤ x6 from by have := HBa.out.size; omega)
          have HEx6 := Lib.hid hx6
          have HGas := Lib.hid (show vas.heap.size = x6 + 1 from by rw [← hvas, ← hx6]; simp)
          have HBas := Lib.hid (HBa.out.trans (hbas.mono HBa.out.size))
          have HCas := Lib.hid hbas
          rw [hvas, hx6]
          clear hvas hx6 hbas
          refine HKas.out.out _ _ (fun _ => HBas.out) ?_
          have Sas : Below wr.heap.size wr vas := HBas.out
          refine tillK_step (i := 5) (by kernel_rfl) rfl (by rfl) ?_
          intro Kasc hKasc
          have HKasc := Lib.hid hKasc
          clear hKasc
          go_wp2_with fail
          refine (HDO.out _ HBas.out).mono ?_
          rintro e vasc ⟨A2, rfl, hmasc, hbasc⟩
          have HM2 := Lib.hid hmasc
          have HBasc := Lib.hid (HBas.out.trans (hbasc.mono HBas.out.size))
          have HCasc := Lib.hid hbasc
          clear hmasc hbasc
          dsimp only
          refine HKasc.out.out _ _ (fun _ => HBasc.out) ?_
          have Sasc : Below wr.heap.size wr vasc := HBasc.out
          refine tillK_take (i := 6) (v := .tuple #[shV s' A2, ansV n']) rfl (by kernel_rfl) (by kernel_rfl) (by kernel_rfl) (by kernel_rfl) (by kernel_rfl) (by kernel_rfl) (fun _ _ _ h => h) (Or.inl ⟨by rfl, ?hyasc_6⟩) (by assumption) ?restasc_6
          case hyasc_6 =>
            intro w' hb'
            go_simp
          try simp only [Act.put, List.setIfInBounds_toArray]
          refine tillK_take (i := 7) (v := shV s' A2) rfl (by kernel_rfl) (by kernel_rfl) (by kernel_rfl) (by kernel_rfl) (by kernel_rfl) (by kernel_rfl) (fun _ _ _ h => h) (Or.inl ⟨by rfl, ?hyasc_7⟩) (by assumption) ?restasc_7
          case hyasc_7 =>
            intro w' hb'
            go_simp
          try simp only [Act.put]
          refine tillK_take (i := 8) (v := ansV n') rfl (by kernel_rfl) (by kernel_rfl) (by kernel_rfl) (by kernel_rfl) (by kernel_rfl) (by kernel_rfl) (fun _ _ _ h => h) (Or.inl ⟨by rfl, ?hyasc_8⟩) (by assumption) ?restasc_8
          case hyasc_8 =>
            intro w' hb'
            go_simp
          try simp only [Act.put]
          have HTA := Lib.hid (show TwA W wr vasc x8 x6 x7 s s' A A2 from ⟨HLB.out, HM2.out, (Hx6.out).later HCasc.out, ((Hx7.out).later HCas.out).later HCasc.out, HLx6.out, HLx7.out, by
            have h6 := HEx6.out
            have h7 := HEx7.out
            have g9 := HGas.out
            have g10 := HGa.out
            have sa := HCa.out.size
            have sas := HCas.out.size
            have sasc := HCasc.out.size
            omega, HBasc.out⟩)
          obtain ⟨u0, e0⟩ := HTA.out.k6.so 0 (by decide)
          obtain ⟨u1, e1⟩ := HTA.out.k6.so 1 (by decide)
          obtain ⟨u2, e2⟩ := HTA.out.k6.so 2 (by decide)
          obtain ⟨u3, e3⟩ := HTA.out.k6.so 3 (by decide)
          obtain ⟨u4, e4⟩ := HTA.out.k6.so 4 (by decide)
          obtain ⟨v0, g0⟩ := HTA.out.k7.so 0 (by decide)
          obtain ⟨v1, g1⟩ := HTA.out.k7.so 1 (by decide)
          obtain ⟨v2, g2⟩ := HTA.out.k7.so 2 (by decide)
          obtain ⟨v3, g3⟩ := HTA.out.k7.so 3 (by decide)
          obtain ⟨v4, g4⟩ := HTA.out.k7.so 4 (by decide)
          have f6 := HTA.out.k6.fz
          have f7 := HTA.out.k7.fz
          have N67 := HTA.out.n67
          refine tillK_step (i := 11) (by kernel_rfl) rfl (by rfl) ?_
          intro Kascfs hKascfs
          have HKascfs := Lib.hid hKascfs
          clear hKascfs
          go_wp2_with fail
          refine HKascfs.out.out _ _ (fun _ => below_set5s (v0 := _) (v1 := _) (v2 := _) (v3 := _) (v4 := _) HBasc.out HLx6.out) ?_
          refine tillK_step (i := 12) (by kernel_rfl) rfl (by rfl) ?_
          intro Kascft hKascft
          have HKascft := Lib.hid hKascft
          clear hKascft
          go_wp2_with fail
          refine HKascft.out.out _ _ (fun h => by simp at h) ?_
          refine tillK_done (by kernel_rfl) ?_
          go_wp2_with fail
          go_meet
          exact ⟨x6, x7, A2, _, rfl, rfl, rfl, HTA.out.fin n' _ rfl⟩
    case rest =>
      obtain ⟨x6, x7, A2, V, rfl, rfl, rfl, hT⟩ := hcut
      have HT := Lib.hid hT
      have HRW := Lib.hid (fun (w' : World) (h : Below V.heap.size V w') => (HRT.out s' A2 w' (HT.out.new.later h).m (HST.out.szs (by omega))))
      have hok := ok_right HST.out.ok
      have HOK := Lib.hid hok
      obtain ⟨_, d0, d1, d2, d3, d4, _, _⟩ := HT.out.new
      have HZ := Lib.hid (Below.refl V.heap.size V)
      clear hT hok
      go_wp2_with fail
      refine (HRW.out _ HZ.out).mono ?_
      rintro e w5 ⟨rfl, hb5⟩
      rw [HOK.out]
      have HN5 := Lib.hid (HT.out.new.later hb5)
      have HO5 := Lib.hid (HT.out.old.later hb5)
      have HB5 := Lib.hid (HB.out.trans ((HT.out.b.trans (hb5.mono HT.out.b.size)).mono HB.out.size))
      obtain ⟨_, e0, e1, e2, e3, e4, _, _⟩ := HN5.out
      obtain ⟨_, o0, o1, o2, o3, o4, _, _⟩ := HO5.out
      have hvv : ¬ ((s'.ver : Int) < (s.ver : Int)) := by have := HVV.out; omega
      have hvd : decide ((s'.ver : Int) < (s.ver : Int)) = false := by simp [hvv]
      have fz := HO5.out.kb.fz
      obtain ⟨U, hU⟩ : ∃ U, set5s w5 x8 (.slice A2.ra s'.rows.length A2.rc) (.slice A2.ha s'.holds.length A2.hc) (.slice A2.oa s'.opn.length A2.oc) (.slice A2.da s'.done.length A2.dc) (.int .u64 (s'.ver : Nat)) = U := ⟨_, rfl⟩
      have HE := Lib.hid (show LB W U x8 s' A2 ∧ Below W.heap.size W U from hU ▸ HO5.out.putB HN5.out.m HB5.out)
      clear hb5 d0 d1 d2 d3 d4
      go_wp2_with fail
      go_roundw
      case rel => exact ⟨k + 1, s', A2, HLT.out, by go_num, HST.out, HE.out.1, HE.out.2⟩
      case measure => have := HLT.out; simp [intOf]; omega
end Go.Proofs.Ythgnecggdlamfaa
