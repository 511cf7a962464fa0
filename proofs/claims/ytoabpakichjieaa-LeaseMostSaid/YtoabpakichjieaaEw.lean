/- LeaseMost. -/
import Derived.Test.YtoabpakichjieaaEv
import Derived.Test.YtoabpakichjieaaEu
namespace Go.Proofs.Ytoabpakichjieaa
open Go.RowKit

theorem keepS7 {w0 w w' : World} {x b o : Nat} {u v z : Value} (h : w.cell? ⟨x, 0, none⟩ = some u ∧ w.cell? ⟨x, 1, none⟩ = some v ∧ w.cell? ⟨b, o, none⟩ = some z ∧ x < w.heap.size ∧ b < w.heap.size ∧ Below w0.heap.size w0 w) (hb : Below w.heap.size w w') :
    w'.cell? ⟨x, 0, none⟩ = some u ∧ w'.cell? ⟨x, 1, none⟩ = some v ∧ w'.cell? ⟨b, o, none⟩ = some z ∧ x < w'.heap.size ∧ b < w'.heap.size ∧ Below w0.heap.size w0 w' := by
  obtain ⟨h0, h1, h2, h3, h4, h5⟩ := h
  exact ⟨(hb.cell (p := ⟨x, 0, none⟩) h3).trans h0, (hb.cell (p := ⟨x, 1, none⟩) h3).trans h1, (hb.cell (p := ⟨b, o, none⟩) h4).trans h2, Nat.lt_of_lt_of_le h3 hb.size, Nat.lt_of_lt_of_le h4 hb.size, h5.trans (hb.mono h5.size)⟩
theorem take_ok {R : List Nat} {j x : Nat} (p : Nat → Bool) (hx : R[j]? = some x) : 1 + (R.take (j + 1)).countP p = 1 + (R.take j).countP p + if p x then 1 else 0 := by
  obtain ⟨hj, rfl⟩ := List.getElem?_eq_some_iff.1 hx
  rw [List.take_succ_eq_append_getElem hj, List.countP_append, List.countP_cons, List.countP_nil]
  omega
set_option maxRecDepth 100000 in
set_option maxHeartbeats 8000000 in
theorem law_LeaseMost (n c n2 c2 m e : Nat) (a a2 a3 : Option Addr) (V Lr : List Nat) (M : List Mk) (now s dr : Nat) (hnow : now < 18446744073709551616) (hs : s < 18446744073709551616) (hd : dr < 18446744073709551616) (w : World) (hI : CfIn w n c a a2 V n2 c2 Lr m e a3 M) :
    Calls Try.prog 8 #[.agg #[.slice a n c, .slice a2 n2 c2, .int .u64 now, .slice a3 m e, .int .u64 s, .int .u64 dr]] w fun e w' => e = .returned (.bool true) ∧ Below w.heap.size w w' := by
  obtain ⟨x, hx⟩ : ∃ x, x = w.heap.size + 1 := ⟨_, rfl⟩
  have C0 := Lib.hid (Cb.new (w := w.alloc (.cells #[.slice a n c, .slice a2 n2 c2, .int .u64 now, .slice a3 m e, .int .u64 s, .int .u64 dr] 40)) (x := x) (by simp [hx]) (.slice a n c) (.slice a2 n2 c2) 29)
  have HB0 := Lib.hid (show Below w.heap.size w ((w.alloc (.cells #[.slice a n c, .slice a2 n2 c2, .int .u64 now, .slice a3 m e, .int .u64 s, .int .u64 dr] 40)).alloc (.cells #[.slice a n c, .slice a2 n2 c2] 29)) by go_grown)
  have HX := Lib.hid hx
  clear hx
  have hml : m ≤ 140737488351232 := by have := hI.cf.hl2; omega
  have hnl : n ≤ 140737488351232 := by have := hI.cf.hl; omega
  rcases hV : V with _ | ⟨v0, R⟩
  · subst hV
    obtain rfl : n = 0 := by have := hI.cf.hn; simpa using this.symm
    clear hI
    go_enter Try.func8, Try.ntmps8
    go_upto_region 6 with (fail)
    rw [← HX.out]
    generalize (w.alloc (.cells #[.slice a 0 c, .slice a2 n2 c2, .int .u64 now, .slice a3 m e, .int .u64 s, .int .u64 dr] 40)).alloc (.cells #[.slice a 0 c, .slice a2 n2 c2] 29) = W at *
    go_wp2_with fail
    refine (shown_any _).mono ?_
    rintro e1 w1 ⟨rfl, hb1⟩
    have HB1 := Lib.hid (HB0.out.trans (hb1.mono HB0.out.size))
    have HC1 := Lib.hid (C0.out.later hb1)
    clear hb1 C0 HB0
    obtain ⟨c0, c1, _, _⟩ := HC1.out
    go_wp2_with fail
    go_quiet (fail)
    go_wp2_with fail
    go_ret
    exact ⟨by first | rfl | simp, below_drewN HB1.out _⟩
  subst hV
  have hn1 : R.length + 1 = n := by have := hI.cf.hn; simpa using this
  obtain ⟨b, hb⟩ : ∃ b, bnd s dr = b := ⟨_, rfl⟩
  obtain ⟨k, hk⟩ : ∃ k, agL (mks (v0 :: R) (setN v0 now M)) = k := ⟨_, rfl⟩
  have hkb : k < 18446744073709551616 := by rw [← hk]; exact ag_lt hI.nums3 hnow
  have HC := Lib.hid hI.cf
  have HU := Lib.hid hI.mem2
  have H1 := Lib.hid (fun (w' : World) (h : CfM w' n c a a2 (v0 :: R) m e a3 M) (h2 : Us w' a2 Lr) => pHolds_any n c n2 c2 m e a a2 a3 (v0 :: R) Lr M v0 now s dr b k hs hd hb hk hkb w' h hI.hlen2 hI.room2 h2)
  have HMO := Lib.hid (most_of (R := R) (Lr := Lr) (M := M) (v0 := v0) (now := now) (s := s) (dr := dr) (b := b) (k := k) hb hk)
  obtain ⟨q, hq⟩ : ∃ q, holdsB (v0 :: R) Lr v0 now (untl b k) = q := ⟨_, rfl⟩
  rw [hq] at H1 HMO
  obtain ⟨ba, off, ea, hba, p0⟩ := hI.cf.hV 0 v0 rfl
  subst ea
  have P0 := Lib.hid (show w.cell? ⟨ba, off, none⟩ = some (.int .u64 (v0 : Nat)) from p0)
  have HBA := Lib.hid hba
  have HN := Lib.hid hn1
  have HM3 := Lib.hid hI.cf.hm
  have HNM := Lib.hid hI.nums3
  have hn0 : 0 < n := by omega
  clear hI hb hk hkb hq p0 hba hn1
  go_enter Try.func8, Try.ntmps8
  go_upto_region 6 with (fail)
  rw [← HX.out]
  generalize (w.alloc (.cells #[.slice (some ⟨ba, off, none⟩) n c, .slice a2 n2 c2, .int .u64 now, .slice a3 m e, .int .u64 s, .int .u64 dr] 40)).alloc (.cells #[.slice (some ⟨ba, off, none⟩) n c, .slice a2 n2 c2] 29) = W at *
  go_wp2_with fail
  refine (shown_any _).mono ?_
  rintro e1 w1 ⟨rfl, hb1⟩
  have HB1 := Lib.hid (HB0.out.trans (hb1.mono HB0.out.size))
  have HC1 := C0.out.later hb1
  clear hb1 C0 HB0
  have hS1 : w1.cell? ⟨x, 0, none⟩ = some (.slice (some ⟨ba, off, none⟩) n c) ∧ w1.cell? ⟨x, 1, none⟩ = some (.slice a2 n2 c2) ∧ w1.cell? ⟨ba, off, none⟩ = some (.int .u64 (v0 : Nat)) ∧ x < w1.heap.size ∧ ba < w1.heap.size ∧ Below w.heap.size w w1 :=
    ⟨HC1.c0, HC1.c1, (HB1.out.cell (p := ⟨ba, off, none⟩) HBA.out).trans P0.out, HC1.lt, Nat.lt_of_lt_of_le HBA.out HB1.out.size, HB1.out⟩
  have HS1 := Lib.hid hS1
  clear hS1 HC1 HB1
  go_upto_region 7 with (fail)
  have S1 := keepS7 HS1.out (Below.refl _ _).drew
  have g0 : ((n : Int) == 0) = false := by simp; omega
  have g1 : (0 : Int) < (n : Int) := by omega
  clear HS1
  go_wp2_with fail
  go_region_held3 (fun w' => w'.cell? ⟨x, 0, none⟩ = some (.slice (some ⟨ba, off, none⟩) n c) ∧ w'.cell? ⟨x, 1, none⟩ = some (.slice a2 n2 c2) ∧ w'.cell? ⟨ba, off, none⟩ = some (.int .u64 (v0 : Nat)) ∧ x < w'.heap.size ∧ ba < w'.heap.size ∧ Below w.heap.size w w')
    (first | (with_reducible assumption) | go_keep)
    (first
      | (go_at_call 15; (with_reducible refine (H1.out _ (HC.out.later S1.2.2.2.2.2) (HU.out.later S1.2.2.2.2.2)).mono ?_); rintro e2 w2 ⟨rfl, hb2⟩; have S2 := keepS7 S1 hb2))
  all_goals
    have HS2 := Lib.hid S2
    clear S1 S2 g0
    cases q
    · go_wp2_with fail
      go_ret
      exact ⟨by first | rfl | simp, HS2.out.2.2.2.2.2⟩
    rw [Bool.not_true]
    have HFIN := Lib.hid (HMO.out rfl)
    clear HMO
    obtain ⟨c0, c1, _, lx, _, HBw⟩ := HS2.out
    have HBW := Lib.hid HBw
    clear HBw
    go_upto_block 0 with (fail)
    go_wp2_with fail
    go_loopw [9, 10] (fun nv iv wr => ∃ j i cn : Nat, i = j + 1 ∧ j ≤ R.length ∧ iv = .int .i64 (i : Nat) ∧ nv = .int .i64 (cn : Nat) ∧ 1 + (R.take j).countP (okB now s M) = cn ∧ Below w2.heap.size w2 wr) (fun _ iv _ => n - (intOf iv).toNat)
    case atStart => exact ⟨0, 1, 1, rfl, Nat.zero_le _, by go_num, by go_num, by simp, Below.refl _ _⟩
    case round =>
      obtain ⟨j, i, cn, hij, hj, rfl, rfl, hcn, hB⟩ := hrel
      have HIJ := Lib.hid hij
      have hij1 : j + 1 ≤ i := by omega
      have hij2 : i ≤ j + 1 := by omega
      clear hij
      have HCN := Lib.hid hcn
      have HB := Lib.hid hB
      have hcnb : cn ≤ j + 1 := by
        rw [← hcn]
        have h1 := List.countP_le_length (p := okB now s M) (l := R.take j)
        rw [List.length_take] at h1
        omega
      have HR := HN.out
      have hjn : j ≤ 140737488351232 := by omega
      have d0 := (hB.cell (p := ⟨x, 0, none⟩) lx).trans c0
      clear hcn hB
      by_cases hlt : j < R.length
      · obtain ⟨v, hv⟩ : ∃ v, R[j]? = some v := ⟨_, List.getElem?_eq_getElem hlt⟩
        obtain ⟨bb, oo, eo, hbb, q0⟩ := HC.out.hV.later (HBW.out.trans (HB.out.mono HBW.out.size)) i v (by rw [HIJ.out]; simpa using hv)
        cases eo
        have HMs := Lib.hid (HC.out.hM.later (HBW.out.trans (HB.out.mono HBW.out.size)))
        have HTK := Lib.hid (take_ok (okB now s M) hv)
        have g2 : (i : Int) < (n : Int) := by omega
        have g3 : 0 ≤ (i : Int) := by omega
        have hjl : j + 1 ≤ R.length := hlt
        clear hv HR hlt
        go_wp2_with fail
        go_loopw [9, 11] (fun nv kv wr2 => ∃ k : Nat, k ≤ m ∧ kv = .int .i64 k ∧ nv = .int .i64 (cn : Nat) ∧ markN v M = markN v (M.drop k) ∧ Below wr.heap.size wr wr2) (fun _ kv _ => m - (intOf kv).toNat)
        case atStart => exact ⟨0, Nat.zero_le _, rfl, rfl, rfl, Below.refl _ _⟩
        case round =>
          obtain ⟨k, hk, rfl, rfl, hf, hB2⟩ := hrel
          have HF := Lib.hid hf
          have HB2 := Lib.hid (HB.out.trans (hB2.mono HB.out.size))
          have HB2i := Lib.hid hB2
          have e0 := (hB2.cell (p := ⟨x, 0, none⟩) (Nat.lt_of_lt_of_le lx HB.out.size)).trans d0
          have e1 := (hB2.cell (p := ⟨ba, off + i, none⟩) hbb).trans q0
          clear hf hB2 d0 q0
          by_cases hlk : k < m
          · obtain ⟨y, hy⟩ : ∃ y, M[k]? = some y := ⟨_, List.getElem?_eq_getElem (by rw [HM3.out]; exact hlk)⟩
            obtain ⟨b3, o3, rfl, _, p0, p1⟩ := HMs.out.later HB2i.out k y hy
            have HFA := Lib.hid (HF.out.trans (markN_at (id := v) hy))
            have hyn : y.n < 18446744073709551616 := (HNM.out y (List.mem_of_getElem? hy)).2
            have i0 : (0 : Int) ≤ (k : Int) := by omega
            have i1 : (k : Int) < (m : Int) := by omega
            obtain ⟨yi, yn⟩ := y
            clear hy
            simp only at p0 p1 hyn
            by_cases he : yi = v
            · have ge : ((yi : Int) == (v : Int)) = true := by simp; omega
              have HMK := Lib.hid (show markN v M = (yn, true) by rw [HFA.out, if_pos he])
              by_cases h1 : now < yn
              · have g5 : (now : Int) < (yn : Int) := by omega
                have HOK := Lib.hid (show 1 + (R.take (j + 1)).countP (okB now s M) = cn + 1 by rw [HTK.out, HCN.out, okB, HMK.out, decide_eq_true h1]; rfl)
                clear he h1
                go_wp2_with fail
                go_quiet (fail)
                go_wp2_with fail
                go_roundw
                case rel => exact ⟨j + 1, i + 1, cn + 1, by omega, by omega, by go_num, by go_num, HOK.out, below_drewN HB2.out _⟩
                case measure => simp [intOf]; omega
              · have g5 : ¬ (now : Int) < (yn : Int) := by omega
                obtain ⟨dd, hdd⟩ : ∃ z, now - yn = z := ⟨_, rfl⟩
                have E1 : (now : Int) - (yn : Int) = (dd : Int) := by omega
                have E2 : IntKind.u64.wrap ((now : Int) - (yn : Int)) = (dd : Int) := by rw [E1, IntKind.wrap_u64]; omega
                have E3 : IntKind.u64.wrap (dd : Int) = (dd : Int) := by rw [IntKind.wrap_u64]; omega
                by_cases h2 : dd < s
                · have g6 : (dd : Int) < (s : Int) := by omega
                  have HOK := Lib.hid (show 1 + (R.take (j + 1)).countP (okB now s M) = cn + 1 by rw [HTK.out, HCN.out, okB, HMK.out, decide_eq_false h1]; simp only; rw [hdd, decide_eq_true h2]; rfl)
                  clear he h1 h2 hdd
                  go_wp2_with fail
                  go_quiet (fail)
                  go_wp2_with fail
                  go_roundw
                  case rel => exact ⟨j + 1, i + 1, cn + 1, by omega, by omega, by go_num, by go_num, HOK.out, below_drewN HB2.out _⟩
                  case measure => simp [intOf]; omega
                · have g6 : ¬ (dd : Int) < (s : Int) := by omega
                  have HOK := Lib.hid (show 1 + (R.take (j + 1)).countP (okB now s M) = cn by rw [HTK.out, HCN.out, okB, HMK.out, decide_eq_false h1]; simp only; rw [hdd, decide_eq_false h2]; rfl)
                  clear he h1 h2 hdd
                  go_wp2_with fail
                  go_quiet (fail)
                  go_wp2_with fail
                  go_roundw
                  case rel => exact ⟨j + 1, i + 1, cn, by omega, by omega, by go_num, by first | rfl | go_num, HOK.out, below_drewN HB2.out _⟩
                  case measure => simp [intOf]; omega
            · have ge : ((yi : Int) == (v : Int)) = false := by simp; omega
              have HFB := Lib.hid (show markN v M = markN v (M.drop (k + 1)) by rw [HFA.out, if_neg he])
              clear he
              go_wp2_with fail
              go_quiet (fail)
              go_wp2_with fail
              go_roundw
              case rel => exact ⟨k + 1, by omega, by go_num, rfl, HFB.out, below_drewN HB2i.out _⟩
              case measure => simp [intOf]; omega
          · have i1 : ¬ (k : Int) < (m : Int) := by omega
            have HMK := Lib.hid (show markN v M = (0, false) by rw [HF.out, List.drop_eq_nil_of_le (by rw [HM3.out]; omega)]; rfl)
            have HOK := Lib.hid (show 1 + (R.take (j + 1)).countP (okB now s M) = cn by rw [HTK.out, HCN.out, okB, HMK.out]; rfl)
            go_wp2_with fail
            go_roundw
            case rel => exact ⟨j + 1, i + 1, cn, by omega, by omega, by go_num, by first | rfl | go_num, HOK.out, HB2.out⟩
            case measure => simp [intOf]; omega
      · have hjR : j = R.length := by omega
        have g2 : ¬ (i : Int) < (n : Int) := by omega
        have hfin : (n : Int) / 2 + 1 ≤ (cn : Int) := by
          have h1 := HFIN.out
          have h2 := HCN.out
          rw [hjR, List.take_length] at h2
          omega
        have HB9 := Lib.hid (HBW.out.trans (HB.out.mono HBW.out.size))
        clear HR hjR hlt
        go_wp2_with fail
        go_ret
        exact ⟨by first | rfl | simp, HB9.out⟩
end Go.Proofs.Ytoabpakichjieaa
