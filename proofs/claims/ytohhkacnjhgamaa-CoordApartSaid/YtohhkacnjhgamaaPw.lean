/- The law CoordApart. -/
import Derived.Test.YtohhkacnjhgamaaOi
namespace Go.Proofs.Ytohhkacnjhgamaa
open Go.RowKit

theorem do_parts {L : List Dl} {o : Cod} {N : Nat} (h : ∀ x ∈ L, x.parts.length ≤ N) (ho : o.parts.length ≤ N) : ∀ x ∈ (doC L o).1, x.parts.length ≤ N := by
  have hone : ∀ d : Dl, d.parts.length ≤ N → ∀ x ∈ L ++ [d], x.parts.length ≤ N := fun d hd x hx => by
    rcases List.mem_append.1 hx with e | e
    · exact h x e
    · obtain rfl : x = d := by simpa using e
      exact hd
  unfold doC
  split
  · split
    · exact h
    split
    · split
      · exact h
      split <;> exact h
    · split
      · exact h
      · exact hone _ ho
  split
  · exact h
  split
  · split
    · exact h
    split
    · exact h
    · exact hone _ (Nat.zero_le _)
  · intro x hx
    rcases set_mem hx with h1 | ⟨d, h1, h2⟩
    · exact h x h1
    · rw [h2]; exact h d (fnd_mem h1)
theorem do_len (L : List Dl) (o : Cod) : (doC L o).1.length ≤ L.length + 1 := by
  unfold doC
  split
  · split
    · simp
    split
    · split
      · simp
      split <;> simp
    · split
      · simp
      · simp
  split
  · simp
  split
  · split
    · simp
    split
    · simp
    · simp
  · simp only [set_len]; omega
theorem samC_refl (L : List Dl) : samC L L = true := (samC_iff L L).2 rfl
set_option maxRecDepth 100000 in
set_option maxHeartbeats 8000000 in
theorem law_CoordApart (L : List Dl) (A : Cad) (o : Cod) (key : ByteArray) (q : Option Addr) (qn qc : Nat) (a : Option Addr) (c : Nat) (t : Tx) (w : World) (hM : CoM w L A) (hl : L.length * 48 ≤ 140737488351232) (hp8 : ∀ x ∈ L, x.parts.length * 8 ≤ 140737488351232) (ho : ∀ x ∈ L, okX x.t) (hox : okX o.t) (hpl : o.parts.length ≤ 140737488351232) (hP : Nus w a o.parts) :
    Calls Try.prog 7 #[coV L A, odV o key q qn qc a c, txV t] w fun e w' => e = .returned (.bool true) ∧ Below w.heap.size w w' := by
  have hp : ∀ x ∈ L, x.parts.length ≤ 140737488351232 := fun x hx => by have := hp8 x hx; omega
  obtain ⟨ta, ti⟩ := t
  have hap : ∀ h : ¬ o.t = ⟨ta, ti⟩, fndC ⟨ta, ti⟩ (doC L o).1 = fndC ⟨ta, ti⟩ L := fun h => apart_fnd L o h
  have hal := apart_len L o
  have hae := apart_err L o
  have hdp := do_parts (o := o) hp hpl
  have hdl := do_len L o
  obtain ⟨⟨L2, ne, nb⟩, hdo⟩ : ∃ r, doC L o = r := ⟨_, rfl⟩
  rw [hdo] at hap hal hae hdp hdl
  simp only at hap hal hae hdp hdl
  have HDO := Lib.hid (fun w' (hb : Below w.heap.size w w') => (show Calls Try.prog 16 #[coV L A, odV o key q qn qc a c] w' (DoP w' (L2, ne, nb)) from by
    have := do_any L A o key q qn qc a c w' (hM.later hb) (by omega) (fun x hx => by have := hp8 x hx; omega) ho hox hpl (hP.later hb)
    rw [hdo] at this; exact this))
  obtain ⟨kd, ⟨oa, oi⟩, P, cm⟩ := o
  simp only at hap HDO
  obtain ⟨W, hW⟩ : ∃ W, ((w.alloc (.cells #[.slice A.a L.length A.c] 24)).alloc (.cells #[.int .i64 kd, .int .u64 (oa : Nat), .int .u64 (oi : Nat), .string key, .slice q qn qc, .bool cm, .slice a P.length c] 46)).alloc (.cells #[.int .u64 (ta : Nat), .int .u64 (ti : Nat)] 27) = W := ⟨_, rfl⟩
  obtain ⟨x, hx⟩ : ∃ x, w.heap.size = x := ⟨_, rfl⟩
  have hX : Below w.heap.size w W ∧ x + 1 < W.heap.size ∧ W.cell? ⟨x, 0, none⟩ = some (.slice A.a L.length A.c) ∧ (W.cell? ⟨x + 1, 0, none⟩ = some (.int .i64 kd) ∧ W.cell? ⟨x + 1, 1, none⟩ = some (.int .u64 (oa : Nat)) ∧ W.cell? ⟨x + 1, 2, none⟩ = some (.int .u64 (oi : Nat)) ∧ W.cell? ⟨x + 1, 3, none⟩ = some (.string key) ∧ W.cell? ⟨x + 1, 4, none⟩ = some (.slice q qn qc) ∧ W.cell? ⟨x + 1, 5, none⟩ = some (.bool cm) ∧ W.cell? ⟨x + 1, 6, none⟩ = some (.slice a P.length c)) ∧ TxBox W (x + 1 + 1) ⟨ta, ti⟩ := by
    rw [← hW, ← hx]
    exact ⟨by go_grown, by simp, by simp [go_sem], ⟨by simp [go_sem], by simp [go_sem], by simp [go_sem], by simp [go_sem], by simp [go_sem], by simp [go_sem], by simp [go_sem]⟩, ⟨by simp, by simp [go_sem], by simp [go_sem]⟩⟩
  obtain ⟨hB, hxl, hc, hod, hT⟩ := hX
  have HB := Lib.hid hB
  have HF := Lib.hid (fun w' (h : Below W.heap.size W w') => (show w'.cell? ⟨x, 0, none⟩ = some (.slice A.a L.length A.c) ∧ (w'.cell? ⟨x + 1, 0, none⟩ = some (.int .i64 kd) ∧ w'.cell? ⟨x + 1, 1, none⟩ = some (.int .u64 (oa : Nat)) ∧ w'.cell? ⟨x + 1, 2, none⟩ = some (.int .u64 (oi : Nat)) ∧ w'.cell? ⟨x + 1, 3, none⟩ = some (.string key) ∧ w'.cell? ⟨x + 1, 4, none⟩ = some (.slice q qn qc) ∧ w'.cell? ⟨x + 1, 5, none⟩ = some (.bool cm) ∧ w'.cell? ⟨x + 1, 6, none⟩ = some (.slice a P.length c)) ∧ TxBox w' (x + 1 + 1) ⟨ta, ti⟩ from by
    have f : ∀ j v, W.cell? ⟨x + 1, j, none⟩ = some v → w'.cell? ⟨x + 1, j, none⟩ = some v := fun j v e => (h.cell (p := ⟨x + 1, j, none⟩) hxl).trans e
    exact ⟨(h.cell (p := ⟨x, 0, none⟩) (Nat.lt_of_succ_lt hxl)).trans hc, ⟨f _ _ hod.1, f _ _ hod.2.1, f _ _ hod.2.2.1, f _ _ hod.2.2.2.1, f _ _ hod.2.2.2.2.1, f _ _ hod.2.2.2.2.2.1, f _ _ hod.2.2.2.2.2.2⟩, hT.later h⟩))
  have HM := Lib.hid (fun w' (h : Below W.heap.size W w') => (hM.later hB).later h)
  have HAP := Lib.hid hap
  have HAL := Lib.hid hal
  have HAE := Lib.hid hae
  have HDP := Lib.hid hdp
  have HP := Lib.hid hp
  have HDL := Lib.hid (show L2.length ≤ 140737488351232 by omega)
  have HLL := Lib.hid (show L.length ≤ 140737488351232 by omega)
  have HW := Lib.hid hW
  have HX := Lib.hid hx
  have HFE := Lib.hid (fun w' (h : Below W.heap.size W w') => hB.trans (h.mono hB.size))
  clear hM hl hp8 ho hox hpl hP hp hap hal hae hdp hdl hdo hW hx hB hxl hc hod hT
  go_enter Try.func7, Try.ntmps7
  go_upto_region 1 with (fail)
  rw [HW.out, HX.out]
  go_wp2_with fail
  refine (shown_any W).mono ?_
  rintro e w1 ⟨rfl, hb1⟩
  have HB1 := Lib.hid hb1
  obtain ⟨c0, ⟨o0, o1, o2, o3, o4, o5, o6⟩, _⟩ := HF.out w1 hb1
  clear hb1
  go_wp2_with fail
  refine (HDO.out w1 (HFE.out _ HB1.out)).mono ?_
  rintro e w2 ⟨A2, rfl, hm2, _, hb2⟩
  obtain ⟨V, hV⟩ : ∃ V, (w2.alloc (.cells #[.slice A2.a L2.length A2.c] 24)).alloc (.cells #[.int .i64 (ne : Nat), .string ⟨#[]⟩, .int .u64 0, .bool false, .bool nb] 41) = V := ⟨_, rfl⟩
  obtain ⟨x8, hx8⟩ : ∃ x, w2.heap.size = x := ⟨_, rfl⟩
  have hX : Below w2.heap.size w2 V ∧ V.cell? ⟨x8, 0, none⟩ = some (.slice A2.a L2.length A2.c) ∧ AnB V (x8 + 1) ne nb ∧ x8 < V.heap.size := by
    rw [← hV, ← hx8]
    exact ⟨by go_grown, by simp [go_sem], AnB.new (by simp) ne nb _, by simp; omega⟩
  obtain ⟨hbv, c8, an, hl8⟩ := hX
  have hbV := (HB1.out.trans (hb2.mono HB1.out.size)).trans (hbv.mono (Nat.le_trans HB1.out.size hb2.size))
  have HBV := Lib.hid hbV
  have HM2 := Lib.hid (fun w' (h : Below V.heap.size V w') => (hm2.later hbv).later h)
  have HC8 := Lib.hid (fun w' (h : Below V.heap.size V w') => (h.cell (p := ⟨x8, 0, none⟩) hl8).trans c8)
  have q0 := an.c0
  have HV := Lib.hid hV
  have HX8 := Lib.hid hx8
  clear hm2 hb2 hV hx8 hbv an hl8 o0 o1 o2 o3 o4 o5 o6 c0
  obtain ⟨c0, ⟨_, o1, o2, _, _, _, _⟩, ⟨_, t0, t1⟩⟩ := HF.out V HBV.out
  simp only at t0 t1
  go_upto_region 3 with (fail)
  rw [HV.out, HX8.out]
  by_cases hne : ne = 0
  case neg =>
    have hL2 : L2 = L := HAE.out hne
    subst hL2
    have HSM := Lib.hid (rSameC_any L2 L2 A A2 HLL.out HP.out HDL.out HDP.out V (HM.out V HBV.out) (HM2.out V (Below.refl _ _)))
    have HSR := Lib.hid (samC_refl L2)
    have g0 : ((ne : Int) == 0) = false := by simp; omega
    have g1 : ((ne : Int) != 0) = true := by simp; omega
    clear hne
    go_wp2_with fail
    refine HSM.out.mono ?_
    rintro e w5 ⟨rfl, hb5⟩
    rw [HSR.out]
    have HB5 := Lib.hid (HBV.out.trans (hb5.mono HBV.out.size))
    clear hb5 c8 q0 o1 o2 t0 t1 c0
    go_wp2_with fail
    go_ret
    exact ⟨by first | rfl | simp, HFE.out _ HB5.out⟩
  subst hne
  by_cases he : (⟨oa, oi⟩ : Tx) = ⟨ta, ti⟩
  · have hya : oa = ta := by cases he; rfl
    have hyi : oi = ti := by cases he; rfl
    subst hya hyi
    clear he
    go_wp2_with fail
    go_ret
    exact ⟨by first | rfl | simp, HFE.out _ HBV.out⟩
  have HFQ := Lib.hid (HAP.out he)
  have F1 := Lib.hid (rFind_any L A ⟨ta, ti⟩ HLL.out V (HM.out V HBV.out))
  rcases tx_ne he with g | ⟨g0, g⟩
  all_goals
    clear he
    try simp only at g0
    simp only at g
    try have g0' : ((oa : Int) == (ta : Int)) = true := by simp; omega
    go_wp2_with fail
    refine F1.out.mono ?_
    intro e w5 hf1
    obtain ⟨y1, rfl, e1, n1, l1, hb5⟩ := hf1.uni (HM.out V HBV.out) HP.out
    obtain ⟨⟨⟨da, di⟩, dp, ds⟩, dl, dc⟩ := y1
    obtain ⟨V5, hV5⟩ : ∃ U, w5.alloc (.cells #[.int .u64 (da : Nat), .int .u64 (di : Nat), .slice dl dp.length dc, .int .i64 ds] 31) = U := ⟨_, rfl⟩
    obtain ⟨x11, hx11⟩ : ∃ x, w5.heap.size = x := ⟨_, rfl⟩
    have hba : Below w5.heap.size w5 V5 := hV5 ▸ (Below.refl _ _).alloc (Nat.le_refl _) _
    have hdb : DB V5 x11 ⟨⟨⟨da, di⟩, dp, ds⟩, dl, dc⟩ := hV5 ▸ DB.new hx11.symm ⟨⟨⟨da, di⟩, dp, ds⟩, dl, dc⟩ _
    have HB5 := Lib.hid (hb5.trans (hba.mono hb5.size))
    have HBW5 := Lib.hid (HBV.out.trans (HB5.out.mono HBV.out.size))
    have HN1 := Lib.hid (n1.later (hb5.trans (hba.mono hb5.size)))
    have HL1 := Lib.hid l1
    have HE1 := Lib.hid e1
    have HD1 := Lib.hid hdb
    have HV5 := Lib.hid hV5
    have HX11 := Lib.hid hx11
    have F2 := Lib.hid (rFind_any L2 A2 ⟨ta, ti⟩ HDL.out V5 (HM2.out V5 HB5.out))
    clear hf1 e1 n1 l1 hb5 hV5 hx11 hba hdb c0 o1 o2 t0 t1 c8 q0
    obtain ⟨c0, _, ⟨_, t0, t1⟩⟩ := HF.out V5 HBW5.out
    have c8 := HC8.out V5 HB5.out
    simp only at t0 t1
    go_upto_region 9 with (fail)
    rw [HV5.out, HX11.out]
    go_wp2_with fail
    refine F2.out.mono ?_
    intro e w6 hf2
    obtain ⟨y2, rfl, e2, n2, l2, hb6⟩ := hf2.uni (HM2.out V5 HB5.out) HDP.out
    rw [HFQ.out] at e2 ⊢
    rw [← HE1.out] at e2
    obtain ⟨x2, dl2, dc2⟩ := y2
    simp only at e2 n2 l2 ⊢
    subst e2
    obtain ⟨V6, hV6⟩ : ∃ U, w6.alloc (.cells #[.int .u64 (da : Nat), .int .u64 (di : Nat), .slice dl2 dp.length dc2, .int .i64 ds] 31) = U := ⟨_, rfl⟩
    obtain ⟨x13, hx13⟩ : ∃ x, w6.heap.size = x := ⟨_, rfl⟩
    have hba : Below w6.heap.size w6 V6 := hV6 ▸ (Below.refl _ _).alloc (Nat.le_refl _) _
    have hdb : DB V6 x13 ⟨⟨⟨da, di⟩, dp, ds⟩, dl2, dc2⟩ := hV6 ▸ DB.new hx13.symm ⟨⟨⟨da, di⟩, dp, ds⟩, dl2, dc2⟩ _
    have HB6 := Lib.hid (hb6.trans (hba.mono hb6.size))
    have HBW6 := Lib.hid (HBW5.out.trans (HB6.out.mono HBW5.out.size))
    have HBV6 := Lib.hid (HB5.out.trans (HB6.out.mono HB5.out.size))
    have hsn := rSameN_any dp.length dc dp.length dc2 dl dl2 dp dp rfl HL1.out rfl HL1.out V6 (HN1.out.later HB6.out) ((n2.later hb6).later hba)
    rw [decide_eq_true (rfl : dp = dp)] at hsn
    have HSN := Lib.hid hsn
    have HD2 := Lib.hid hdb
    have HV6 := Lib.hid hV6
    have HX13 := Lib.hid hx13
    clear hf2 n2 l2 hb6 hV6 hx13 hba hdb hsn c0 t0 t1 c8
    obtain ⟨_, a0, a1, a2, a3⟩ := HD1.out.later HB6.out
    obtain ⟨_, b0, b1, b2, b3⟩ := HD2.out
    simp only at a0 a1 a2 a3 b0 b1 b2 b3
    go_upto_region 10 with (fail)
    rw [HV6.out, HX13.out]
    go_wp2_with fail
    refine HSN.out.mono ?_
    rintro e w7 ⟨rfl, hb7⟩
    have HB7 := Lib.hid (HBW6.out.trans (hb7.mono HBW6.out.size))
    obtain ⟨_, _, _, _, f3⟩ := (HD1.out.later HB6.out).later hb7
    obtain ⟨_, _, _, _, h3⟩ := HD2.out.later hb7
    obtain ⟨c0, _, _⟩ := HF.out w7 HB7.out
    have c8 := HC8.out w7 (HBV6.out.trans (hb7.mono HBV6.out.size))
    have hge : (L.length : Int) ≤ (L2.length : Int) := by have := HAL.out; omega
    have hgd : decide ((L.length : Int) ≤ (L2.length : Int)) = true := decide_eq_true hge
    have hgn : decide (L.length ≤ L2.length) = true := decide_eq_true HAL.out
    simp only at f3 h3
    obtain ⟨ob, hob⟩ : ∃ b, (fndC ⟨ta, ti⟩ L).isSome = b := ⟨_, rfl⟩
    rw [hob]
    have gob : (ob == ob) = true := by simp
    clear hb7 hob hge a0 a1 a2 a3 b0 b1 b2 b3
    go_wp2_with fail
    go_ret
    exact ⟨by first | rfl | simp, HFE.out _ HB7.out⟩
end Go.Proofs.Ytohhkacnjhgamaa
