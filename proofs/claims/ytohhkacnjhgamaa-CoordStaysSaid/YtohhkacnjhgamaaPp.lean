/- Find: the program's. -/
import Derived.Test.YtohhkacnjhgamaaPo
namespace Go.Proofs.Ytohhkacnjhgamaa
open Go.RowKit Go.Maps

/-- What the program's Find answers. -/
def FuP (w : World) (L : List Dl) (t : Tx) (e : Ending) (w' : World) : Prop := ∃ y : DlM, e = .returned (.tuple #[dlV y, .bool (fndC t L).isSome]) ∧ y.x = (fndC t L).getD ⟨⟨0, 0⟩, [], 0⟩ ∧ Nus w' y.a y.x.parts ∧ y.x.parts.length ≤ 140737488351232 ∧ Below w.heap.size w w'
set_option maxRecDepth 100000 in
set_option maxHeartbeats 8000000 in
theorem pFind_any (L : List Dl) (A : Cad) (t : Tx) (w : World) (hM : CoM w L A) (hl : L.length ≤ 140737488351232) (hp : ∀ x ∈ L, x.parts.length * 8 ≤ 140737488355328) (ho : ∀ x ∈ L, okX x.t) (hox : okX t) :
    Calls Try.prog 9 #[coV L A, txV t] w (FuP w L t) := by
  obtain ⟨n, hn⟩ : ∃ n, L.length = n := ⟨_, rfl⟩
  obtain ⟨ta, ti⟩ := t
  obtain ⟨W, hW⟩ : ∃ W, ((w.alloc (.cells #[.slice A.a n A.c] 24)).alloc (.cells #[.int .u64 (ta : Nat), .int .u64 (ti : Nat)] 27)).alloc (.cells #[.int .u64 0, .int .u64 0, .slice none 0 0, .int .i64 0] 31) = W := ⟨_, rfl⟩
  obtain ⟨x, hx⟩ : ∃ x, w.heap.size = x := ⟨_, rfl⟩
  have hX : Below w.heap.size w W ∧ x < W.heap.size ∧ W.cell? ⟨x, 0, none⟩ = some (.slice A.a n A.c) ∧ TxBox W (x + 1) ⟨ta, ti⟩ ∧ KB W (x + 1 + 1) dK ∧ W.heap.size = x + 1 + 1 + 1 ∧ (W.cell? ⟨x + 1 + 1, 0, none⟩ = some (.int .u64 0) ∧ W.cell? ⟨x + 1 + 1, 1, none⟩ = some (.int .u64 0) ∧ W.cell? ⟨x + 1 + 1, 2, none⟩ = some (.slice none 0 0) ∧ W.cell? ⟨x + 1 + 1, 3, none⟩ = some (.int .i64 0)) := by
    rw [← hW, ← hx]
    exact ⟨by go_grown, by simp; omega, by simp [go_sem], ⟨by simp; try omega, by simp [go_sem], by simp [go_sem]⟩, KB.new4 (by simp) _ _ _ _ _, by simp, by simp [go_sem], by simp [go_sem], by simp [go_sem], by simp [go_sem]⟩
  obtain ⟨hB, hxl, c0, hT, hK, hs, hz⟩ := hX
  have HPL := Lib.hid (show ∀ w', Below W.heap.size W w' → Calls Try.prog 17 #[.agg #[.slice A.a n A.c]] w' (PlP w' L) from fun w' h => by have := places_any L A w' ((hM.later hB).later h) hl ho; unfold coV at this; rw [hn] at this; exact this)
  have HM := Lib.hid (hM.later hB)
  have HB := Lib.hid hB
  have HK := Lib.hid hK
  have HCC := Lib.hid (fun w' (h : Below W.heap.size W w') => And.intro ((h.cell (p := ⟨x, 0, none⟩) hxl).trans c0) (hT.later h))
  have HZ := Lib.hid hz
  have HS := Lib.hid hs
  have HN := Lib.hid hn
  have HX := Lib.hid hx
  have HW := Lib.hid hW
  have HPP := Lib.hid hp
  have HOX := Lib.hid hox
  show Calls Try.prog 9 #[.agg #[.slice A.a L.length A.c], .agg #[.int .u64 (ta : Nat), .int .u64 (ti : Nat)]] w _
  rw [hn]
  have q0 := hT.c0
  have q1 := hT.c1
  simp only at q0 q1
  clear hM hB hK hs hz hn hx hW hp hox ho hT
  go_enter Try.func9, Try.ntmps9
  go_upto_region 1 with (fail)
  rw [HW.out, HX.out]
  have S0 : W.drew.cell? ⟨x, 0, none⟩ = some (.slice A.a n A.c) ∧ W.drew.cell? ⟨x + 1, 0, none⟩ = some (.int .u64 (ta : Nat)) ∧ W.drew.cell? ⟨x + 1, 1, none⟩ = some (.int .u64 (ti : Nat)) := ⟨c0, q0, q1⟩
  have HDR := Lib.hid (show Below W.heap.size W W.drew from (Below.refl _ _).drew)
  refine tillK_begin (S := fun w' => w'.cell? ⟨x, 0, none⟩ = some (.slice A.a n A.c) ∧ w'.cell? ⟨x + 1, 0, none⟩ = some (.int .u64 (ta : Nat)) ∧ w'.cell? ⟨x + 1, 1, none⟩ = some (.int .u64 (ti : Nat))) (k := 8) (by kernel_rfl) ?_
  refine tillK_take (i := 2) (v := .agg #[.int .u64 (ta : Nat), .int .u64 (ti : Nat)]) rfl (by kernel_rfl) (by kernel_rfl) (by kernel_rfl) (by kernel_rfl) (by kernel_rfl) (by kernel_rfl) (fun _ _ _ h => h) (Or.inl ⟨by rfl, ?hyf_2⟩) (by assumption) ?restf_2
  case hyf_2 =>
    rintro w' ⟨e0, e1, e2⟩
    go_simp
  try simp only [List.getElem_toArray, List.getElem_cons_succ, List.getElem_cons_zero, Act.put, List.setIfInBounds_toArray, List.set_cons_zero, List.set_cons_succ]
  refine tillK_step (i := 0) (by kernel_rfl) rfl (by rfl) ?_
  intro Kf_0 hKf_0
  have HKf_0 := Lib.hid hKf_0
  clear hKf_0
  go_wp2_with fail
  refine HKf_0.out.out _ _ (fun _ => S0) ?_
  refine tillK_step (i := 1) (by kernel_rfl) rfl (by rfl) ?_
  intro Kf_1 hKf_1
  have HKf_1 := Lib.hid hKf_1
  clear hKf_1
  go_wp2_with fail
  refine (HPL.out _ HDR.out).mono ?_
  rintro e w1 ⟨mb, mn, D, rfl, hT, hD, _, _, hb1⟩
  have hB1 := HDR.out.trans (hb1.mono HDR.out.size)
  have HB1 := Lib.hid hB1
  obtain ⟨cc, hTB⟩ := HCC.out w1 hB1
  have S1 : w1.cell? ⟨x, 0, none⟩ = some (.slice A.a n A.c) ∧ w1.cell? ⟨x + 1, 0, none⟩ = some (.int .u64 (ta : Nat)) ∧ w1.cell? ⟨x + 1, 1, none⟩ = some (.int .u64 (ti : Nat)) := ⟨cc, hTB.c0, hTB.c1⟩
  obtain ⟨v, hlk, hv⟩ := look_run hT hD HOX.out
  obtain ⟨px, hpx⟩ : ∃ p, pixC ⟨ta, ti⟩ 0 L = p := ⟨_, rfl⟩
  rw [hpx] at hlk hv
  obtain ⟨pb, hpb⟩ : ∃ p, px.isSome = p := ⟨_, rfl⟩
  rw [hpb] at hlk
  simp only at hlk
  have HPB := Lib.hid hpb
  have HV := Lib.hid hv
  have HPX := Lib.hid hpx
  have HKW := Lib.hid (HK.out.later hB1)
  clear hT hD hb1 hpx hpb hv S0 hTB q0 q1 c0
  dsimp only
  refine HKf_1.out.out _ _ (fun _ => S1) ?_
  refine tillK_step (i := 3) (by kernel_rfl) rfl (by rfl) ?_
  intro Kf_3 hKf_3
  have HKf_3 := Lib.hid hKf_3
  clear hKf_3
  go_wp2_with fail
  refine HKf_3.out.out _ _ (fun _ => S1) ?_
  clear hlk
  refine tillK_step (i := 4) (by kernel_rfl) rfl (by rfl) ?_
  intro Kf_4 hKf_4
  have HKf_4 := Lib.hid hKf_4
  clear hKf_4
  go_wp2_with fail
  refine HKf_4.out.out _ _ (fun _ => S1) ?_
  refine tillK_take (i := 5) (v := .int .i64 v) rfl (by kernel_rfl) (by kernel_rfl) (by kernel_rfl) (by kernel_rfl) (by kernel_rfl) (by kernel_rfl) (fun _ _ _ h => h) (Or.inl ⟨by rfl, ?hyf_5⟩) (by assumption) ?restf_5
  case hyf_5 =>
    rintro w' ⟨e0, e1, e2⟩
    go_simp
  try simp only [List.getElem_toArray, List.getElem_cons_succ, List.getElem_cons_zero, Act.put, List.setIfInBounds_toArray, List.set_cons_zero, List.set_cons_succ]
  refine tillK_take (i := 6) (v := .bool pb) rfl (by kernel_rfl) (by kernel_rfl) (by kernel_rfl) (by kernel_rfl) (by kernel_rfl) (by kernel_rfl) (fun _ _ _ h => h) (Or.inl ⟨by rfl, ?hyf_6⟩) (by assumption) ?restf_6
  case hyf_6 =>
    rintro w' ⟨e0, e1, e2⟩
    go_simp
  try simp only [List.getElem_toArray, List.getElem_cons_succ, List.getElem_cons_zero, Act.put, List.setIfInBounds_toArray, List.set_cons_zero, List.set_cons_succ]
  refine tillK_step (i := 7) (by kernel_rfl) rfl (by rfl) ?_
  intro Kf_7 hKf_7
  have HKf_7 := Lib.hid hKf_7
  clear hKf_7
  go_wp2_with fail
  refine HKf_7.out.out _ _ (fun _ => S1) ?_
  refine tillK_step (i := 8) (by kernel_rfl) rfl (by rfl) ?_
  intro Kf_8 hKf_8
  have HKf_8 := Lib.hid hKf_8
  clear hKf_8
  go_wp2_with fail
  refine HKf_8.out.out _ _ (fun h => by simp at h) ?_
  refine tillK_done (by kernel_rfl) ?_
  clear S1
  have kf := HKW.out.fz
  have f : ∀ j v, W.cell? ⟨x + 1 + 1, j, none⟩ = some v → w1.cell? ⟨x + 1 + 1, j, none⟩ = some v := fun j v e => (HB1.out.cell (p := ⟨x + 1 + 1, j, none⟩) (by have := HS.out; simp only; omega)).trans e
  cases pb
  case false =>
    obtain rfl : px = none := by
      cases px
      · rfl
      · have := HPB.out; cases this
    have HFN := Lib.hid (pix_none HPX.out)
    have d0 := f _ _ HZ.out.1
    have d1 := f _ _ HZ.out.2.1
    have d2 := f _ _ HZ.out.2.2.1
    have d3 := f _ _ HZ.out.2.2.2
    have HXS := Lib.hid (show w.heap.size ≤ x + 1 + 1 by have := HX.out; omega)
    clear hB1 f
    go_wp2_with fail
    refine bodyPost_ret (v := .tuple #[.agg #[.int .u64 0, .int .u64 0, .slice none 0 0, .int .i64 0], .bool false]) (by simp [results, Try.results9, go_sem, d0, d1, d2, d3]) rfl ?_
    refine ⟨⟨⟨⟨0, 0⟩, [], 0⟩, none, 0⟩, by rw [HFN.out]; rfl, by rw [HFN.out]; rfl, fun k x hx => by simp at hx, Nat.zero_le _, ?_⟩
    have hb := HB.out.trans (HB1.out.mono HB.out.size)
    exact (((hb.setCell HXS.out _).setCell HXS.out _).setCell HXS.out _).setCell HXS.out _
  obtain ⟨k, rfl⟩ : ∃ k, px = some k := by
    cases px
    · have := HPB.out; cases this
    · exact ⟨_, rfl⟩
  obtain rfl : v = (k : Nat) := HV.out k rfl
  obtain ⟨d, hd, hfd⟩ := pix_some HPX.out
  obtain ⟨y, hy, hyx, hym⟩ := deal_at HM.out hd
  subst hyx
  have hkl : k < n := by rw [← HN.out]; exact (List.getElem?_eq_some_iff.1 hd).1
  have hMM := HM.out.later hB1
  obtain ⟨b, off, ea, hgl, p0, p1, p2, p3⟩ := Dlm.cells hMM.row hy
  have hyz := HPP.out y.x (List.mem_of_getElem? hd)
  have HCD := Lib.hid (copiedDeal_any y hyz w1 (hMM.parts y hym))
  have HYZ := Lib.hid hyz
  rw [ea] at cc
  have HFD := Lib.hid hfd
  have i0 : (0 : Int) ≤ (k : Int) := by omega
  have i1 : (k : Int) < (n : Int) := by omega
  have i2 : ¬ (k : Int) < 0 := by omega
  obtain ⟨⟨⟨ya, yi⟩, yp, ys⟩, yl, yc⟩ := y
  simp only at p0 p1 p2 p3 HFD HYZ
  clear ea hd hfd hy hym hMM hyz hB1 f kf
  go_wp2_with fail
  refine HCD.out.mono ?_
  rintro e w2 ⟨a2, d2, rfl, q2, l2, m2, b2⟩
  have hKW := HKW.out.later b2
  obtain ⟨_, so, fz, _⟩ := hKW
  obtain ⟨u0, e0⟩ := so 0 (by decide)
  obtain ⟨u1, e1⟩ := so 1 (by decide)
  obtain ⟨u2, e2⟩ := so 2 (by decide)
  obtain ⟨u3, e3⟩ := so 3 (by decide)
  have HFIN := Lib.hid (show FuP w L ⟨ta, ti⟩ (.returned (.tuple #[.agg #[.int .u64 (ya : Nat), .int .u64 (yi : Nat), .slice a2 yp.length d2, .int .i64 ys], .bool true])) (set4s w2 (x + 1 + 1) (.int .u64 (ya : Nat)) (.int .u64 (yi : Nat)) (.slice a2 yp.length d2) (.int .i64 ys)) from by
    have hs := HS.out
    have hx := HX.out
    have h1 := HB1.out.size
    have g2 := set4s_grown w2 (x + 1 + 1) (.int .u64 (ya : Nat)) (.int .u64 (yi : Nat)) (.slice a2 yp.length d2) (.int .i64 ys)
    have hb := (HB.out.trans (HB1.out.mono HB.out.size))
    have hb2 := hb.trans (b2.mono hb.size)
    refine ⟨⟨⟨⟨ya, yi⟩, yp, ys⟩, a2, d2⟩, by rw [HFD.out]; rfl, by rw [HFD.out]; rfl, rw_grown q2 g2 ((l2.ne (.inl (by omega))).nb _), by simp only at HYZ ⊢; have := HYZ.out; omega, hb2.grown g2 hb2.size (fun k e => by cases e; omega)⟩)
  clear q2 l2 m2 b2 so p0 p1 p2 p3 cc
  go_wp2_with fail
  refine bodyPost_ret (v := .tuple #[.agg #[.int .u64 (ya : Nat), .int .u64 (yi : Nat), .slice a2 yp.length d2, .int .i64 ys], .bool true]) (by simp [results, Try.results9, go_sem, e0, e1, e2, e3]) rfl ?_
  exact HFIN.out
end Go.Proofs.Ytohhkacnjhgamaa
