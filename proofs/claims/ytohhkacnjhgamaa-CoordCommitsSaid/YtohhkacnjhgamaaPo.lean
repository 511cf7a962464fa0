/- Do, Find: the program's. -/
import Derived.Test.YtohhkacnjhgamaaPn
namespace Go.Proofs.Ytohhkacnjhgamaa
open Go.RowKit Go.Maps

theorem KB.under {w w' : World} {x B : Nat} {ks : List Nat} (h : KB w x ks) (hb : Below B w w') (hx : x < B) : KB w' x ks :=
  ⟨fun o u e => h.cs o u ((hb.cell (p := ⟨x, o, none⟩) hx).symm.trans e), fun o ho => by obtain ⟨u, e⟩ := h.so o ho; exact ⟨u, (hb.cell (p := ⟨x, o, none⟩) hx).trans e⟩, fun j => (hb.frozen (p := ⟨x, j, none⟩) hx).trans (h.fz j), Nat.lt_of_lt_of_le h.lt hb.size⟩
theorem RcB.under {w w' : World} {x4 x5 B : Nat} (h : RcB w x4 x5) (hb : Below B w w') (hx : x5 < B) : RcB w' x4 x5 := ⟨h.s.under hb (Nat.lt_trans h.l5 hx), h.a.under hb hx, h.l5⟩
theorem do_beg {L : List Dl} {o : Cod} (h : o.kind = 5) : doC L o = begC L o.t o.parts := by
  unfold doC begC
  rw [if_pos h]
  split
  · rfl
  · cases fndC o.t L <;> rfl
theorem do_dec {L : List Dl} {o : Cod} (h : o.kind = 6 ∨ o.kind = 7) : doC L o = dcdC L o.t (o.cm && decide (o.kind = 6)) := by
  unfold doC dcdC
  rw [if_neg (by omega), if_neg (by omega)]
  cases fndC o.t L <;> rfl
theorem do_no {L : List Dl} {o : Cod} (h : o.kind ≠ 5 ∧ o.kind ≠ 6 ∧ o.kind ≠ 7) : doC L o = (L, 1, false) := by
  unfold doC
  rw [if_neg h.1, if_pos h.2]
/-- What an order is answered. -/
def DoP (w : World) (r : List Dl × Nat × Bool) (e : Ending) (w' : World) : Prop := ∃ A, e = .returned (.tuple #[coV r.1 A, anV r.2.1 r.2.2]) ∧ CoM w' r.1 A ∧ (∀ y ∈ A.om, LI y.a w.heap.size w'.heap.size) ∧ Below w.heap.size w w'
set_option maxRecDepth 100000 in
set_option maxHeartbeats 8000000 in
theorem do_any (L : List Dl) (A : Cad) (o : Cod) (key : ByteArray) (q : Option Addr) (qn qc : Nat) (a : Option Addr) (c : Nat) (w : World) (hM : CoM w L A) (hl : L.length * 48 ≤ 140737488355328) (hp : ∀ x ∈ L, x.parts.length * 8 ≤ 140737488355328) (ho : ∀ x ∈ L, okX x.t) (hox : okX o.t) (hpl : o.parts.length ≤ 140737488351232) (hP : Nus w a o.parts) :
    Calls Try.prog 16 #[coV L A, odV o key q qn qc a c] w (DoP w (doC L o)) := by
  obtain ⟨n, hn⟩ : ∃ n, L.length = n := ⟨_, rfl⟩
  obtain ⟨kd, ⟨ta, ti⟩, P, cm⟩ := o
  simp only at hox hpl hP ⊢
  obtain ⟨W, hW⟩ : ∃ W, waW L A ⟨kd, ⟨ta, ti⟩, P, cm⟩ key q qn qc a c w = W := ⟨_, rfl⟩
  obtain ⟨x, hx⟩ : ∃ x, w.heap.size = x := ⟨_, rfl⟩
  obtain ⟨hK, hBW, hs⟩ := waW_box hW hx
  rw [hn] at hK
  obtain ⟨pn, hpn⟩ : ∃ n, P.length = n := ⟨_, rfl⟩
  have hcp := copied_any L A W (hM.later hBW) hl hp
  unfold coV at hcp
  rw [hn] at hcp
  have HCP := Lib.hid hcp
  have HBW := Lib.hid hBW
  have HK := Lib.hid hK
  have HS := Lib.hid hs
  have HN := Lib.hid hn
  have HX := Lib.hid hx
  have HPN := Lib.hid hpn
  have HBG := Lib.hid (fun (A1 : Cad) (w' : World) (hC : CoC W.heap.size w' L A1) (h1 : W.heap.size ≤ w'.heap.size) (h2 : Nus w' a P) => begin_any W.heap.size L A1 ⟨kd, ⟨ta, ti⟩, P, cm⟩ key q qn qc a c w' hC h1 (by omega) (fun x hx => by have := hp x hx; omega) ho hox hpl h2)
  have HDC := Lib.hid (fun (cm : Bool) (A1 : Cad) (w' : World) (hC : CoC W.heap.size w' L A1) (h1 : W.heap.size ≤ w'.heap.size) => decide_any W.heap.size L A1 ⟨kd, ⟨ta, ti⟩, P, cm⟩ key q qn qc a c w' hC h1 (by omega) ho hox)
  have HPP := Lib.hid hP
  obtain ⟨r, hr⟩ : ∃ r, doC L ⟨kd, ⟨ta, ti⟩, P, cm⟩ = r := ⟨_, rfl⟩
  rw [hr]
  have HR := Lib.hid hr
  show Calls Try.prog 16 #[.agg #[.slice A.a L.length A.c], .agg #[.int .i64 kd, .int .u64 (ta : Nat), .int .u64 (ti : Nat), .string key, .slice q qn qc, .bool cm, .slice a P.length c]] w _
  rw [hn, hpn]
  have HWX := Lib.hid (show (((w.alloc (.cells #[.slice A.a n A.c] 24)).alloc (.cells #[.int .i64 kd, .int .u64 (ta : Nat), .int .u64 (ti : Nat), .string key, .slice q qn qc, .bool cm, .slice a pn c] 46)).alloc (.cells #[.slice none 0 0] 24)).alloc (.cells #[.int .i64 0, .string ⟨#[]⟩, .int .u64 0, .bool false, .bool false] 41) = W from by rw [← hn, ← hpn]; exact hW)
  have cc := hK.cc
  clear hM hl hp ho hox hpl hP hK hBW hs hn hx hpn hr hW hcp
  go_enter Try.func16, Try.ntmps16
  go_upto_region 1 with (fail)
  rw [HWX.out, HX.out]
  go_wp2_with fail
  refine HCP.out.mono ?_
  rintro e w1 ⟨A1, rfl, hC1, hb1⟩
  unfold coV
  rw [HN.out]
  have HK1 := Lib.hid (HK.out.later hb1)
  have HB1 := Lib.hid (HBW.out.trans (hb1.mono HBW.out.size))
  have hx0 := HX.out
  have hs0 := HS.out
  have c1 := HK1.out.cc
  have z1 := HK1.out.k.fz
  obtain ⟨V, hV⟩ : ∃ V, w1.setCell ⟨x, 0, none⟩ (.slice A1.a n A1.c) = V := ⟨_, rfl⟩
  have hg := sc_one w1 x 0 (.slice A1.a n A1.c)
  rw [hV] at hg
  have hb1s := hb1.size
  have HCV := Lib.hid (hC1.box hg (by omega))
  have HBV := Lib.hid (show Below w.heap.size w V from HB1.out.grown hg (by have := HB1.out.size; omega) (fun k e => by cases e; omega))
  have HSV := Lib.hid (show W.heap.size ≤ V.heap.size from Nat.le_trans hb1s hg.size)
  have hkv : WaB x n A1 ⟨kd, ⟨ta, ti⟩, P, cm⟩ key q qn qc a c V := by
    have h := HK1.out
    have hl := h.ol
    have f : ∀ j v, w1.cell? ⟨x + 1, j, none⟩ = some v → V.cell? ⟨x + 1, j, none⟩ = some v := fun j v e => (World.cell?_of_block (a := ⟨x + 1, j, none⟩) (hg.block (x + 1) hl (by simp))).trans e
    exact ⟨by rw [← hV]; exact h.k.set rfl, by rw [← hV]; simp [go_sem, c1], Nat.lt_of_lt_of_le hl hg.size, fun j => by
      have := h.oz j
      simp only [World.frozen?] at this ⊢
      rw [hg.block (x + 1) hl (by simp)]; exact this, f _ _ h.kd, f _ _ h.t0, f _ _ h.t1, f _ _ h.ky, f _ _ h.pu, f _ _ h.cm, f _ _ h.pa, h.r.grown hg (by omega) (by omega)⟩
  have HKV := Lib.hid hkv
  have HV := Lib.hid hV
  clear hC1 hb1 hg hb1s hkv hV cc
  go_upto_region 2 with (fail)
  rw [HV.out]
  clear c1 z1
  obtain ⟨_, cc, ol, _, kd0, t0, t1, ky, pu, cm0, pa, _⟩ := HKV.out
  simp only [HPN.out] at kd0 t0 t1 pa cm0
  have HFI := Lib.hid (fun (wz : World) (L2 : List Dl) (A2 : Cad) (n2 : Nat) (b2 : Bool) (hR : RcB wz (x + 1 + 1) (x + 1 + 1 + 1)) (hM : CoM wz L2 A2) (hl : ∀ y ∈ A2.om, LI y.a W.heap.size wz.heap.size) (hb : Below w.heap.size w wz) =>
    (show DoP w (L2, n2, b2) (.returned (.tuple #[.agg #[.slice A2.a L2.length A2.c], anV n2 b2])) (finW wz (x + 1 + 1) (x + 1 + 1 + 1) L2 A2 n2 b2) from by
      obtain ⟨m1, m2, m3⟩ := hR.fin hM n2 b2 (fun y hy => ⟨(hl y hy).ne (.inl (by omega)), (hl y hy).ne (.inl (by omega))⟩)
      exact ⟨A2, rfl, m1, fun y hy => (hl y hy).mono (by omega) m3, hb.trans (m2 _ (Below.refl _ _) (by omega))⟩))
  by_cases h5 : kd = 5
  · subst h5
    have g5 : ((5 : Int) == 5) = true := by decide
    have hbg := HBG.out A1 V HCV.out HSV.out (HPP.out.later HBV.out)
    rw [show begC L (⟨ta, ti⟩ : Tx) P = r from by rw [← HR.out]; exact (do_beg (o := ⟨5, ⟨ta, ti⟩, P, cm⟩) rfl).symm] at hbg
    unfold coV odV at hbg
    simp only [HN.out, HPN.out] at hbg
    have HBG2 := Lib.hid hbg
    clear hbg
    go_wp2_with fail
    refine HBG2.out.mono ?_
    rintro e w3 ⟨A2, rfl, hM2, hl2, hb2⟩
    obtain ⟨⟨L2, n2, b2⟩, hr2⟩ : ∃ z, r = z := ⟨_, rfl⟩
    subst hr2
    have hr3 := HKV.out.r.under hb2 (by omega)
    have HFIN := Lib.hid (HFI.out w3 L2 A2 n2 b2 hr3 hM2 hl2 (HBV.out.trans (hb2.mono (by omega))))
    simp only [finW, set5a] at HFIN
    obtain ⟨u0, e0⟩ := hr3.s.so 0 (by decide)
    obtain ⟨v0, f0⟩ := hr3.a.so 0 (by decide)
    obtain ⟨v1, f1⟩ := hr3.a.so 1 (by decide)
    obtain ⟨v2, f2⟩ := hr3.a.so 2 (by decide)
    obtain ⟨v3, f3⟩ := hr3.a.so 3 (by decide)
    obtain ⟨v4, f4⟩ := hr3.a.so 4 (by decide)
    have z4 := hr3.s.fz
    have z5 := hr3.a.fz
    clear hM2 hl2 hb2 hr3 cc ol kd0 t0 t1 ky pu cm0 pa
    go_wp2_with fail
    refine bodyPost_ret (v := .tuple #[.agg #[.slice A2.a L2.length A2.c], anV n2 b2]) (by simp [results, Try.results16, go_sem, e0, f0, f1, f2, f3, f4]) rfl ?_
    exact HFIN.out
  have g5 : (kd == 5) = false := by simpa using h5
  by_cases h7 : kd = 7
  · subst h7
    have hdc := HDC.out false A1
    obtain ⟨V2, hV2⟩ : ∃ U, V.setCell ⟨x + 1, 5, none⟩ (.bool false) = U := ⟨_, rfl⟩
    have hg2 := sc_one V (x + 1) 5 (.bool false)
    rw [hV2] at hg2
    have hbV2 : Below w.heap.size w V2 := HBV.out.grown hg2 (by have := HBV.out.size; omega) (fun k e => by cases e; omega)
    have hsV2 : W.heap.size ≤ V2.heap.size := Nat.le_trans HSV.out hg2.size
    have hbg := hdc V2 (HCV.out.box hg2 (by omega)) hsV2
    rw [show dcdC L (⟨ta, ti⟩ : Tx) false = r from by rw [← HR.out]; rw [do_dec (o := ⟨7, ⟨ta, ti⟩, P, cm⟩) (.inr rfl)]; simp] at hbg
    unfold coV odV at hbg
    simp only [HN.out, HPN.out] at hbg
    have HBG2 := Lib.hid hbg
    have hrV2 := HKV.out.r.grown hg2 (by omega) (by omega)
    have HRV := Lib.hid hrV2
    have HBV2 := Lib.hid hbV2
    have HV2 := Lib.hid hV2
    have f : ∀ j v, j ≠ 5 → V.cell? ⟨x + 1, j, none⟩ = some v → V2.cell? ⟨x + 1, j, none⟩ = some v := fun j v hj e => by rw [← hV2]; simp [go_sem, e]
    have kd2 := f _ _ (by decide) kd0
    have t02 := f _ _ (by decide) t0
    have t12 := f _ _ (by decide) t1
    have ky2 := f _ _ (by decide) ky
    have pu2 := f _ _ (by decide) pu
    have pa2 := f _ _ (by decide) pa
    have cm2 : V2.cell? ⟨x + 1, 5, none⟩ = some (.bool false) := by rw [← hV2]; simp [go_sem, cm0]
    have cc2 : V2.cell? ⟨x, 0, none⟩ = some (.slice A1.a n A1.c) := (World.cell?_of_block (a := ⟨x, 0, none⟩) (hg2.block x (by omega) (by simp))).trans cc
    have hfz : V.frozen? ⟨x + 1, 5, none⟩ = false := HKV.out.oz 5
    clear hbg hdc hg2 hbV2 hsV2 hrV2 hV2 f
    go_upto_region 8 with (fail)
    rw [HV2.out]
    clear cc ol kd0 t0 t1 ky pu cm0 pa hfz
    go_wp2_with fail
    refine HBG2.out.mono ?_
    rintro e w3 ⟨A2, rfl, hM2, hl2, hb2⟩
    obtain ⟨⟨L2, n2, b2⟩, hr2⟩ : ∃ z, r = z := ⟨_, rfl⟩
    subst hr2
    have hr3 := HRV.out.under hb2 (by omega)
    have HFIN := Lib.hid (HFI.out w3 L2 A2 n2 b2 hr3 hM2 hl2 (HBV2.out.trans (hb2.mono (by omega))))
    simp only [finW, set5a] at HFIN
    obtain ⟨u0, e0⟩ := hr3.s.so 0 (by decide)
    obtain ⟨v0, f0⟩ := hr3.a.so 0 (by decide)
    obtain ⟨v1, f1⟩ := hr3.a.so 1 (by decide)
    obtain ⟨v2, f2⟩ := hr3.a.so 2 (by decide)
    obtain ⟨v3, f3⟩ := hr3.a.so 3 (by decide)
    obtain ⟨v4, f4⟩ := hr3.a.so 4 (by decide)
    have z4 := hr3.s.fz
    have z5 := hr3.a.fz
    clear hM2 hl2 hb2 hr3 cc2 kd2 t02 t12 ky2 pu2 cm2 pa2
    go_wp2_with fail
    refine bodyPost_ret (v := .tuple #[.agg #[.slice A2.a L2.length A2.c], anV n2 b2]) (by simp [results, Try.results16, go_sem, e0, f0, f1, f2, f3, f4]) rfl ?_
    exact HFIN.out
  have g7 : (kd == 7) = false := by simpa using h7
  by_cases h6 : kd = 6
  · subst h6
    have hbg := HDC.out cm A1 V HCV.out HSV.out
    rw [show dcdC L (⟨ta, ti⟩ : Tx) cm = r from by rw [← HR.out]; rw [do_dec (o := ⟨6, ⟨ta, ti⟩, P, cm⟩) (.inl rfl)]; simp] at hbg
    unfold coV odV at hbg
    simp only [HN.out, HPN.out] at hbg
    have HBG2 := Lib.hid hbg
    clear hbg
    go_wp2_with fail
    refine HBG2.out.mono ?_
    rintro e w3 ⟨A2, rfl, hM2, hl2, hb2⟩
    obtain ⟨⟨L2, n2, b2⟩, hr2⟩ : ∃ z, r = z := ⟨_, rfl⟩
    subst hr2
    have hr3 := HKV.out.r.under hb2 (by omega)
    have HFIN := Lib.hid (HFI.out w3 L2 A2 n2 b2 hr3 hM2 hl2 (HBV.out.trans (hb2.mono (by omega))))
    simp only [finW, set5a] at HFIN
    obtain ⟨u0, e0⟩ := hr3.s.so 0 (by decide)
    obtain ⟨v0, f0⟩ := hr3.a.so 0 (by decide)
    obtain ⟨v1, f1⟩ := hr3.a.so 1 (by decide)
    obtain ⟨v2, f2⟩ := hr3.a.so 2 (by decide)
    obtain ⟨v3, f3⟩ := hr3.a.so 3 (by decide)
    obtain ⟨v4, f4⟩ := hr3.a.so 4 (by decide)
    have z4 := hr3.s.fz
    have z5 := hr3.a.fz
    clear hM2 hl2 hb2 hr3 cc ol kd0 t0 t1 ky pu cm0 pa
    go_wp2_with fail
    refine bodyPost_ret (v := .tuple #[.agg #[.slice A2.a L2.length A2.c], anV n2 b2]) (by simp [results, Try.results16, go_sem, e0, f0, f1, f2, f3, f4]) rfl ?_
    exact HFIN.out
  have g6 : (kd == 6) = false := by simpa using h6
  obtain rfl : r = (L, 1, false) := by rw [← HR.out]; exact do_no ⟨h5, h6, h7⟩
  have hr3 := HKV.out.r
  have HFIN := Lib.hid (HFI.out V L A1 1 false hr3 HCV.out.m HCV.out.lp HBV.out)
  simp only [finW, set5a, HN.out] at HFIN
  obtain ⟨u0, e0⟩ := hr3.s.so 0 (by decide)
  obtain ⟨v0, f0⟩ := hr3.a.so 0 (by decide)
  obtain ⟨v1, f1⟩ := hr3.a.so 1 (by decide)
  obtain ⟨v2, f2⟩ := hr3.a.so 2 (by decide)
  obtain ⟨v3, f3⟩ := hr3.a.so 3 (by decide)
  obtain ⟨v4, f4⟩ := hr3.a.so 4 (by decide)
  have z4 := hr3.s.fz
  have z5 := hr3.a.fz
  clear hr3 t0 t1 ky pu cm0 pa
  go_wp2_with fail
  refine bodyPost_ret (v := .tuple #[.agg #[.slice A1.a n A1.c], anV 1 false]) (by simp [results, Try.results16, go_sem, e0, f0, f1, f2, f3, f4]) rfl ?_
  exact HFIN.out
end Go.Proofs.Ytohhkacnjhgamaa
