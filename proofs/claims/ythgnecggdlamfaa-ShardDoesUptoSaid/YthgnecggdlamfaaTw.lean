/- The program's Do. -/
import Derived.Test.YthgnecggdlamfaaTl
import Derived.Test.YthgnecggdlamfaaTp
import Derived.Test.YthgnecggdlamfaaTu
namespace Go.Proofs.Ythgnecggdlamfaa
open Go.RowKit

theorem KB.under {B : Nat} {w w' : World} {x : Nat} {ks : List Nat} (h : KB w x ks) (hb : Below B w w') (hl : x < B) : KB w' x ks := by
  have e := hb.block x hl
  have f : ∀ j, w'.cell? ⟨x, j, none⟩ = w.cell? ⟨x, j, none⟩ := fun j => World.cell?_of_block (a := ⟨x, j, none⟩) e
  exact ⟨fun o u e => h.cs o u ((f o).symm.trans e), fun o ho => by obtain ⟨u, e⟩ := h.so o ho; exact ⟨u, (f o).trans e⟩, fun j => by
    have := h.fz j
    simp only [World.frozen?] at this ⊢
    rw [e]; exact this, Nat.lt_of_lt_of_le h.lt hb.size⟩
theorem RsB.under {B : Nat} {w0 w w' : World} {x4 x5 : Nat} (h : RsB w0 w x4 x5) (hb : Below B w w') (hl : x5 < B) (h0 : w0.heap.size ≤ B) : RsB w0 w' x4 x5 :=
  ⟨h.s.under hb (Nat.lt_trans h.l5 hl), h.a.under hb hl, h.l4, h.l5, h.b.trans (hb.mono h0)⟩
set_option maxRecDepth 100000 in
set_option maxHeartbeats 8000000 in
theorem pDoS_any (s : Sh) (A : Sad) (o : Odr) (a : Option Addr) (c : Nat) (q : Option Addr) (qn qc : Nat) (w : World) (hM : ShM w s A) (zs : SzS s) (zo : SzO o) (hP : Pus w a o.puts) :
    Calls Try.prog 10 #[shV s A, odrV o a c (.slice q qn qc)] w (OrP w (doS s o)) := by
  obtain ⟨W, hW⟩ : ∃ W, doW w s A o a c (.slice q qn qc) = W := ⟨_, rfl⟩
  obtain ⟨x, hx⟩ : ∃ x, w.heap.size = x := ⟨_, rfl⟩
  obtain ⟨hS, hO, hR, hBW, hsz⟩ := four hW hx
  have HCO := Lib.hid (copied_any s A W (hM.later hBW) zs)
  have HS := Lib.hid hS
  have HO := Lib.hid hO
  have HR := Lib.hid (show RsB w W (x + 1 + 1) (x + 1 + 1 + 1) from ⟨hR.s, hR.a, hR.l4, hR.l5, hR.b⟩)
  have HSZ := Lib.hid hsz
  have HA := Lib.hid (fun (A' : Sad) (w' : World) (hC : ShC W.heap.size w' s A') (hz : W.heap.size ≤ w'.heap.size) => access_any W.heap.size s A' o a c q qn qc w' hC hz zs zo)
  have HPR := Lib.hid (fun (A' : Sad) (w' : World) (hC : ShC W.heap.size w' s A') (hb : Below w.heap.size w w') (hz : W.heap.size ≤ w'.heap.size) => prepare_any W.heap.size s A' o a c q qn qc w' hC hz zs zo (hP.later hb))
  have HF := Lib.hid (fun (A' : Sad) (w' : World) (hC : ShC W.heap.size w' s A') (hz : W.heap.size ≤ w'.heap.size) => finish_any W.heap.size s A' o a c q qn qc w' hC hz zs zo)
  have HBW := Lib.hid hBW
  have HW := Lib.hid hW
  have HX := Lib.hid hx
  obtain ⟨u, hu⟩ : ∃ u, Value.slice q qn qc = u := ⟨_, rfl⟩
  rw [hu] at HA HPR HF HW HO hO hW ⊢
  have HDO := Lib.hid (show doS s o = if o.kind = 1 ∨ o.kind = 2 then asksS s o else if o.kind = 3 then prepS s o else if o.kind = 4 then finS s o else (s, ansE 1) from rfl)
  obtain ⟨r, hr⟩ : ∃ r, doS s o = r := ⟨_, rfl⟩
  rw [hr] at HDO ⊢
  obtain ⟨kd, ⟨ta, ti⟩, key, P, cm⟩ := o
  obtain ⟨_, q0, q1, q2, q3, q4, q5, q6⟩ := hO
  obtain ⟨k0, c0, c1, c2, c3, c4⟩ := hS
  simp only at q0 q1 q2 q3 q4 q5 HDO
  clear hM zs zo hP hR hBW hsz hW hx hr hu k0
  go_enter Try.func10, Try.ntmps10
  go_wp2_with fail
  have hWX := HW.out
  simp only [doW] at hWX
  rw [hWX, HX.out]
  clear hWX
  go_wp2_with fail
  refine HCO.out.mono ?_
  rintro e w1 ⟨A1, rfl, hC1, hb1⟩
  -- the copy is laid in the shard's box
  obtain ⟨w2, hw2⟩ : ∃ V, set5s w1 x (.slice A1.ra s.rows.length A1.rc) (.slice A1.ha s.holds.length A1.hc) (.slice A1.oa s.opn.length A1.oc) (.slice A1.da s.done.length A1.dc) (.int .u64 (s.ver : Nat)) = V := ⟨_, rfl⟩
  have hbs1 := HS.out.later hb1
  have hg2 : w1.grownBy w2 (some x) := hw2 ▸ set5s_grown _ _ _ _ _ _ _
  have HC2 := Lib.hid (hC1.box hg2 (by have := HSZ.out; omega))
  obtain ⟨d0, d1, d2, d3, d4⟩ := hbs1.kb.cells5 (.slice A1.ra s.rows.length A1.rc) (.slice A1.ha s.holds.length A1.hc) (.slice A1.oa s.opn.length A1.oc) (.slice A1.da s.done.length A1.dc) (.int .u64 (s.ver : Nat))
  rw [hw2] at d0 d1 d2 d3 d4
  have hO2 := (HO.out.later hb1).grown hg2 (by omega)
  have HR2 := Lib.hid (show RsB w w2 (x + 1 + 1) (x + 1 + 1 + 1) from by
    have h := HR.out.later hb1
    exact ⟨h.s.grownK hg2 (by omega), h.a.grownK hg2 (by omega), h.l4, h.l5, h.b.grown hg2 h.b.size (fun k e => by cases e; have := HX.out; omega)⟩)
  have HB2w := Lib.hid HR2.out.b
  have HZ2 := Lib.hid (show W.heap.size ≤ w2.heap.size from Nat.le_trans hb1.size hg2.size)
  obtain ⟨u0, e0⟩ := hbs1.kb.so 0 (by decide)
  obtain ⟨u1, e1⟩ := hbs1.kb.so 1 (by decide)
  obtain ⟨u2, e2⟩ := hbs1.kb.so 2 (by decide)
  obtain ⟨u3, e3⟩ := hbs1.kb.so 3 (by decide)
  obtain ⟨u4, e4⟩ := hbs1.kb.so 4 (by decide)
  have f1 := hbs1.kb.fz
  have HW2 := Lib.hid hw2
  obtain ⟨_, q0', q1', q2', q3', q4', q5', q6'⟩ := HO.out.later hb1
  simp only at q0' q1' q2' q3' q4' q5'
  obtain ⟨_, r0, r1, r2, r3, r4, r5, r6⟩ := hO2
  simp only at r0 r1 r2 r3 r4 r5
  clear c0 c1 c2 c3 c4 q0 q1 q2 q3 q4 q5 q6 hw2 hbs1 hg2 hC1 hb1
  go_upto_region 2 with (fail)
  have hW2 := HW2.out
  simp only [set5s] at hW2
  rw [hW2]
  clear hW2 e0 e1 e2 e3 e4 f1 q0' q1' q2' q3' q4' q5' q6'
  obtain ⟨⟨rr, rh, ro, rd, rv⟩, ⟨ae, av, an, af, ac⟩⟩ := r
  by_cases h1 : kd = 1
  · subst h1
    have HK := Lib.hid (show OrB W.heap.size w2 (⟨rr, rh, ro, rd, rv⟩, ⟨ae, av, an, af, ac⟩) = OrB W.heap.size w2 (asksS s ⟨1, ⟨ta, ti⟩, key, P, cm⟩) from by rw [HDO.out, if_pos (.inl rfl)])
    go_wp2_with fail
    refine (HA.out A1 w2 HC2.out HZ2.out).mono ?_
    rw [← HK.out]
    rintro e w4 ⟨A4, rfl, hm4, hb4⟩
    have HR4 := Lib.hid (HR2.out.under hb4 (by have := HSZ.out; omega) HBW.out.size)
    have HFI := Lib.hid (OrP.mk' (r := (⟨rr, rh, ro, rd, rv⟩, ⟨ae, av, an, af, ac⟩)) HR4.out hm4)
    clear hm4 hb4 d0 d1 d2 d3 d4 r0 r1 r2 r3 r4 r5 r6
    obtain ⟨u0, e0⟩ := HR4.out.s.so 0 (by decide)
    obtain ⟨u1, e1⟩ := HR4.out.s.so 1 (by decide)
    obtain ⟨u2, e2⟩ := HR4.out.s.so 2 (by decide)
    obtain ⟨u3, e3⟩ := HR4.out.s.so 3 (by decide)
    obtain ⟨u4, e4⟩ := HR4.out.s.so 4 (by decide)
    obtain ⟨v0, g0⟩ := HR4.out.a.so 0 (by decide)
    obtain ⟨v1, g1⟩ := HR4.out.a.so 1 (by decide)
    obtain ⟨v2, g2⟩ := HR4.out.a.so 2 (by decide)
    obtain ⟨v3, g3⟩ := HR4.out.a.so 3 (by decide)
    obtain ⟨v4, g4⟩ := HR4.out.a.so 4 (by decide)
    have f4 := HR4.out.s.fz
    have f5 := HR4.out.a.fz
    go_wp2_with fail
    refine bodyPost_ret (v := .tuple #[shV ⟨rr, rh, ro, rd, rv⟩ A4, ansV ⟨ae, av, an, af, ac⟩]) (by simp [results, Try.results10, go_sem, e0, e1, e2, e3, e4, g0, g1, g2, g3, g4]) rfl ?_
    exact HFI.out _ rfl
  have n1 : (kd == 1) = false := by simpa using h1
  by_cases h2 : kd = 2
  · subst h2
    have HK := Lib.hid (show OrB W.heap.size w2 (⟨rr, rh, ro, rd, rv⟩, ⟨ae, av, an, af, ac⟩) = OrB W.heap.size w2 (asksS s ⟨2, ⟨ta, ti⟩, key, P, cm⟩) from by rw [HDO.out, if_pos (.inr rfl)])
    go_wp2_with fail
    refine (HA.out A1 w2 HC2.out HZ2.out).mono ?_
    rw [← HK.out]
    rintro e w4 ⟨A4, rfl, hm4, hb4⟩
    have HR4 := Lib.hid (HR2.out.under hb4 (by have := HSZ.out; omega) HBW.out.size)
    have HFI := Lib.hid (OrP.mk' (r := (⟨rr, rh, ro, rd, rv⟩, ⟨ae, av, an, af, ac⟩)) HR4.out hm4)
    clear hm4 hb4 d0 d1 d2 d3 d4 r0 r1 r2 r3 r4 r5 r6
    obtain ⟨u0, e0⟩ := HR4.out.s.so 0 (by decide)
    obtain ⟨u1, e1⟩ := HR4.out.s.so 1 (by decide)
    obtain ⟨u2, e2⟩ := HR4.out.s.so 2 (by decide)
    obtain ⟨u3, e3⟩ := HR4.out.s.so 3 (by decide)
    obtain ⟨u4, e4⟩ := HR4.out.s.so 4 (by decide)
    obtain ⟨v0, g0⟩ := HR4.out.a.so 0 (by decide)
    obtain ⟨v1, g1⟩ := HR4.out.a.so 1 (by decide)
    obtain ⟨v2, g2⟩ := HR4.out.a.so 2 (by decide)
    obtain ⟨v3, g3⟩ := HR4.out.a.so 3 (by decide)
    obtain ⟨v4, g4⟩ := HR4.out.a.so 4 (by decide)
    have f4 := HR4.out.s.fz
    have f5 := HR4.out.a.fz
    go_wp2_with fail
    refine bodyPost_ret (v := .tuple #[shV ⟨rr, rh, ro, rd, rv⟩ A4, ansV ⟨ae, av, an, af, ac⟩]) (by simp [results, Try.results10, go_sem, e0, e1, e2, e3, e4, g0, g1, g2, g3, g4]) rfl ?_
    exact HFI.out _ rfl
  have n2 : (kd == 2) = false := by simpa using h2
  by_cases h3 : kd = 3
  · subst h3
    have HK := Lib.hid (show OrB W.heap.size w2 (⟨rr, rh, ro, rd, rv⟩, ⟨ae, av, an, af, ac⟩) = OrB W.heap.size w2 (prepS s ⟨3, ⟨ta, ti⟩, key, P, cm⟩) from by rw [HDO.out, if_neg (by omega), if_pos rfl])
    go_wp2_with fail
    refine (HPR.out A1 w2 HC2.out HB2w.out HZ2.out).mono ?_
    rw [← HK.out]
    rintro e w4 ⟨A4, rfl, hm4, hb4⟩
    have HR4 := Lib.hid (HR2.out.under hb4 (by have := HSZ.out; omega) HBW.out.size)
    have HFI := Lib.hid (OrP.mk' (r := (⟨rr, rh, ro, rd, rv⟩, ⟨ae, av, an, af, ac⟩)) HR4.out hm4)
    clear hm4 hb4 d0 d1 d2 d3 d4 r0 r1 r2 r3 r4 r5 r6
    obtain ⟨u0, e0⟩ := HR4.out.s.so 0 (by decide)
    obtain ⟨u1, e1⟩ := HR4.out.s.so 1 (by decide)
    obtain ⟨u2, e2⟩ := HR4.out.s.so 2 (by decide)
    obtain ⟨u3, e3⟩ := HR4.out.s.so 3 (by decide)
    obtain ⟨u4, e4⟩ := HR4.out.s.so 4 (by decide)
    obtain ⟨v0, g0⟩ := HR4.out.a.so 0 (by decide)
    obtain ⟨v1, g1⟩ := HR4.out.a.so 1 (by decide)
    obtain ⟨v2, g2⟩ := HR4.out.a.so 2 (by decide)
    obtain ⟨v3, g3⟩ := HR4.out.a.so 3 (by decide)
    obtain ⟨v4, g4⟩ := HR4.out.a.so 4 (by decide)
    have f4 := HR4.out.s.fz
    have f5 := HR4.out.a.fz
    go_wp2_with fail
    refine bodyPost_ret (v := .tuple #[shV ⟨rr, rh, ro, rd, rv⟩ A4, ansV ⟨ae, av, an, af, ac⟩]) (by simp [results, Try.results10, go_sem, e0, e1, e2, e3, e4, g0, g1, g2, g3, g4]) rfl ?_
    exact HFI.out _ rfl
  have n3 : (kd == 3) = false := by simpa using h3
  by_cases h4 : kd = 4
  · subst h4
    have HK := Lib.hid (show OrB W.heap.size w2 (⟨rr, rh, ro, rd, rv⟩, ⟨ae, av, an, af, ac⟩) = OrB W.heap.size w2 (finS s ⟨4, ⟨ta, ti⟩, key, P, cm⟩) from by rw [HDO.out, if_neg (by omega), if_neg (by omega), if_pos rfl])
    go_wp2_with fail
    refine (HF.out A1 w2 HC2.out HZ2.out).mono ?_
    rw [← HK.out]
    rintro e w4 ⟨A4, rfl, hm4, hb4⟩
    have HR4 := Lib.hid (HR2.out.under hb4 (by have := HSZ.out; omega) HBW.out.size)
    have HFI := Lib.hid (OrP.mk' (r := (⟨rr, rh, ro, rd, rv⟩, ⟨ae, av, an, af, ac⟩)) HR4.out hm4)
    clear hm4 hb4 d0 d1 d2 d3 d4 r0 r1 r2 r3 r4 r5 r6
    obtain ⟨u0, e0⟩ := HR4.out.s.so 0 (by decide)
    obtain ⟨u1, e1⟩ := HR4.out.s.so 1 (by decide)
    obtain ⟨u2, e2⟩ := HR4.out.s.so 2 (by decide)
    obtain ⟨u3, e3⟩ := HR4.out.s.so 3 (by decide)
    obtain ⟨u4, e4⟩ := HR4.out.s.so 4 (by decide)
    obtain ⟨v0, g0⟩ := HR4.out.a.so 0 (by decide)
    obtain ⟨v1, g1⟩ := HR4.out.a.so 1 (by decide)
    obtain ⟨v2, g2⟩ := HR4.out.a.so 2 (by decide)
    obtain ⟨v3, g3⟩ := HR4.out.a.so 3 (by decide)
    obtain ⟨v4, g4⟩ := HR4.out.a.so 4 (by decide)
    have f4 := HR4.out.s.fz
    have f5 := HR4.out.a.fz
    go_wp2_with fail
    refine bodyPost_ret (v := .tuple #[shV ⟨rr, rh, ro, rd, rv⟩ A4, ansV ⟨ae, av, an, af, ac⟩]) (by simp [results, Try.results10, go_sem, e0, e1, e2, e3, e4, g0, g1, g2, g3, g4]) rfl ?_
    exact HFI.out _ rfl
  have n4 : (kd == 4) = false := by simpa using h4
  have HE := Lib.hid (show ((⟨rr, rh, ro, rd, rv⟩, ⟨ae, av, an, af, ac⟩) : Sh × Ans) = (s, ansE 1) from by rw [HDO.out, if_neg (by omega), if_neg h3, if_neg h4])
  clear h1 h2 h3 h4
  have HFI := Lib.hid (OrP.mk' (r := (s, ansE 1)) HR2.out HC2.out.m)
  obtain ⟨u0, e0⟩ := HR2.out.s.so 0 (by decide)
  obtain ⟨u1, e1⟩ := HR2.out.s.so 1 (by decide)
  obtain ⟨u2, e2⟩ := HR2.out.s.so 2 (by decide)
  obtain ⟨u3, e3⟩ := HR2.out.s.so 3 (by decide)
  obtain ⟨u4, e4⟩ := HR2.out.s.so 4 (by decide)
  obtain ⟨v0, g0⟩ := HR2.out.a.so 0 (by decide)
  obtain ⟨v1, g1⟩ := HR2.out.a.so 1 (by decide)
  obtain ⟨v2, g2⟩ := HR2.out.a.so 2 (by decide)
  obtain ⟨v3, g3⟩ := HR2.out.a.so 3 (by decide)
  obtain ⟨v4, g4⟩ := HR2.out.a.so 4 (by decide)
  have f4 := HR2.out.s.fz
  have f5 := HR2.out.a.fz
  go_wp2_with fail
  refine bodyPost_ret (v := .tuple #[shV s A1, ansV (ansE 1)]) (by simp [results, Try.results10, go_sem, e0, e1, e2, e3, e4, g0, g1, g2, g3, g4, ansE]) rfl ?_
  rw [HE.out]
  exact HFI.out _ rfl
/-- The program's contracts. -/
theorem pShard : PShard (fun _ => True) where
  below _ _ := trivial
  doo s A o a c q qn qc w _ hM zs zo _ _ hP := pDoS_any s A o a c q qn qc w hM zs zo hP
end Go.Proofs.Ythgnecggdlamfaa
