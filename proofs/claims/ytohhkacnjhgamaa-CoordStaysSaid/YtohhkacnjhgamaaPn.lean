/- An order that begins: the program's. -/
import Derived.Test.YtohhkacnjhgamaaPm
namespace Go.Proofs.Ytohhkacnjhgamaa
open Go.RowKit Go.Maps

/-- What an order that begins comes to. -/
def begC (L : List Dl) (t : Tx) (P : List Nat) : List Dl × Nat × Bool := if mayC P = false then (L, 1, false) else match fndC t L with
  | some d => if d.st ≠ 0 then (L, 13, decide (d.st = 1)) else if d.parts = P then (L, 0, false) else (L, 8, false)
  | none => if 64 ≤ L.length then (L, 5, false) else (L ++ [⟨t, P, 0⟩], 0, false)
set_option maxRecDepth 100000 in
set_option maxHeartbeats 8000000 in
theorem begin_any (B : Nat) (L : List Dl) (A : Cad) (o : Cod) (key : ByteArray) (q : Option Addr) (qn qc : Nat) (a : Option Addr) (c : Nat) (w : World) (hC : CoC B w L A) (hB : B ≤ w.heap.size) (hl : L.length ≤ 140737488351232) (hp : ∀ x ∈ L, x.parts.length ≤ 140737488351232) (ho : ∀ x ∈ L, okX x.t) (hox : okX o.t) (hpl : o.parts.length ≤ 140737488351232) (hP : Nus w a o.parts) :
    Calls Try.prog 28 #[coV L A, odV o key q qn qc a c] w (DcP B w (begC L o.t o.parts)) := by
  obtain ⟨n, hn⟩ : ∃ n, L.length = n := ⟨_, rfl⟩
  obtain ⟨kd, ⟨ta, ti⟩, P, cm⟩ := o
  simp only at hox hpl hP ⊢
  obtain ⟨W, hW⟩ : ∃ W, waW L A ⟨kd, ⟨ta, ti⟩, P, cm⟩ key q qn qc a c w = W := ⟨_, rfl⟩
  obtain ⟨x, hx⟩ : ∃ x, w.heap.size = x := ⟨_, rfl⟩
  obtain ⟨hK, hBW, hs⟩ := waW_box hW hx
  rw [hn] at hK
  have HPL := Lib.hid (show ∀ w', Below W.heap.size W w' → Calls Try.prog 17 #[.agg #[.slice A.a n A.c]] w' (PlP w' L) from fun w' h => by have := places_any L A w' ((hC.m.later hBW).later h) hl ho; unfold coV at this; rw [hn] at this; exact this)
  have HC := Lib.hid (hC.later hBW)
  have HC0 := Lib.hid hC
  have HLP := Lib.hid hC.lp
  have HBW := Lib.hid hBW
  have HK := Lib.hid hK
  have HS := Lib.hid hs
  have HN := Lib.hid hn
  have HX := Lib.hid hx
  have HW := Lib.hid hW
  have HBB := Lib.hid hB
  have HOX := Lib.hid hox
  obtain ⟨pn, hpn⟩ : ∃ n, P.length = n := ⟨_, rfl⟩
  have HPN := Lib.hid hpn
  obtain ⟨r, hr⟩ : ∃ r, begC L ⟨ta, ti⟩ P = r := ⟨_, rfl⟩
  rw [hr]
  have HR := Lib.hid hr
  rw [hpn] at hpl
  have HPW := Lib.hid (hP.later hBW)
  have HPP := Lib.hid hp
  obtain ⟨mb, hmb⟩ : ∃ m, mayC P = m := ⟨_, rfl⟩
  have HMB := Lib.hid hmb
  have hva := valid_any pn c a P hpn hpl W (hP.later hBW)
  rw [hmb] at hva
  have HVA := Lib.hid hva
  show Calls Try.prog 28 #[.agg #[.slice A.a L.length A.c], .agg #[.int .i64 kd, .int .u64 (ta : Nat), .int .u64 (ti : Nat), .string key, .slice q qn qc, .bool cm, .slice a P.length c]] w _
  rw [hn, hpn]
  have HWX := Lib.hid (show (((w.alloc (.cells #[.slice A.a n A.c] 24)).alloc (.cells #[.int .i64 kd, .int .u64 (ta : Nat), .int .u64 (ti : Nat), .string key, .slice q qn qc, .bool cm, .slice a pn c] 46)).alloc (.cells #[.slice none 0 0] 24)).alloc (.cells #[.int .i64 0, .string ⟨#[]⟩, .int .u64 0, .bool false, .bool false] 41) = W from by rw [← hn, ← hpn]; exact hW)
  have hpa := hK.pa
  simp only [hpn] at hpa
  clear hC hB hox ho hK hBW hs hn hx hW hpn hr hva hmb hP hp
  go_enter Try.func28, Try.ntmps28
  go_upto_region 1 with (fail)
  rw [HWX.out, HX.out]
  go_wp2_with fail
  refine HVA.out.mono ?_
  rintro e w0 ⟨rfl, hb0⟩
  have HB0 := Lib.hid hb0
  have HK0 := Lib.hid (HK.out.later hb0)
  clear hb0 hpa
  cases mb
  case false =>
    obtain rfl : r = (L, 1, false) := by rw [← HR.out]; unfold begC; rw [HMB.out]; rfl
    have HFIN := Lib.hid (show DcP B w (L, 1, false) (.returned (.tuple #[.agg #[.slice A.a n A.c], anV 1 false])) (finW w0 (x + 1 + 1) (x + 1 + 1 + 1) L A 1 false) from by
      have hx := HX.out
      obtain ⟨m1, m2, m3⟩ := HK0.out.r.fin (HC.out.m.later HB0.out) 1 false (fun y hy => ⟨(HLP.out y hy).ne (.inr (by omega)), (HLP.out y hy).ne (.inr (by omega))⟩)
      have hb0 := HBW.out.trans (HB0.out.mono HBW.out.size)
      have hb : Below w.heap.size w (finW w0 (x + 1 + 1) (x + 1 + 1 + 1) L A 1 false) := hb0.trans (m2 _ (Below.refl _ _) (by omega))
      exact ⟨A, by rw [← HN.out], m1, fun y hy => (HLP.out y hy).mono (Nat.le_refl _) hb.size, hb.mono HBB.out⟩)
    simp only [finW, set5a, HN.out] at HFIN
    obtain ⟨u0, e0⟩ := HK0.out.r.s.so 0 (by decide)
    obtain ⟨v0, f0⟩ := HK0.out.r.a.so 0 (by decide)
    obtain ⟨v1, f1⟩ := HK0.out.r.a.so 1 (by decide)
    obtain ⟨v2, f2⟩ := HK0.out.r.a.so 2 (by decide)
    obtain ⟨v3, f3⟩ := HK0.out.r.a.so 3 (by decide)
    obtain ⟨v4, f4⟩ := HK0.out.r.a.so 4 (by decide)
    have z4 := HK0.out.r.s.fz
    have z5 := HK0.out.r.a.fz
    have cc := HK0.out.cc
    go_wp2_with fail
    refine bodyPost_ret (v := .tuple #[.agg #[.slice A.a n A.c], anV 1 false]) (by simp [results, Try.results28, go_sem, e0, f0, f1, f2, f3, f4]) rfl ?_
    exact HFIN.out
  go_upto_region 3 with (fail)
  have S0 : w0.drew.cell? ⟨x, 0, none⟩ = some (.slice A.a n A.c) ∧ w0.drew.cell? ⟨x + 1, 1, none⟩ = some (.int .u64 (ta : Nat)) ∧ w0.drew.cell? ⟨x + 1, 2, none⟩ = some (.int .u64 (ti : Nat)) := ⟨HK0.out.cc, HK0.out.t0, HK0.out.t1⟩
  have HDR := Lib.hid (show Below W.heap.size W w0.drew from HB0.out.drew)
  have HDK := Lib.hid (show Below w0.heap.size w0 w0.drew from (Below.refl _ _).drew)
  refine tillK_begin (S := fun w' => w'.cell? ⟨x, 0, none⟩ = some (.slice A.a n A.c) ∧ w'.cell? ⟨x + 1, 1, none⟩ = some (.int .u64 (ta : Nat)) ∧ w'.cell? ⟨x + 1, 2, none⟩ = some (.int .u64 (ti : Nat))) (k := 9) (by kernel_rfl) ?_
  refine tillK_take (i := 2) (v := .pointer (some ⟨x + 1, 1, none⟩)) rfl (by kernel_rfl) (by kernel_rfl) (by kernel_rfl) (by kernel_rfl) (by kernel_rfl) (by kernel_rfl) (fun _ _ _ h => h) (Or.inl ⟨by rfl, ?hyl_2⟩) (by assumption) ?restl_2
  case hyl_2 =>
    rintro w' ⟨e0, e1, e2⟩
    go_simp
  try simp only [List.getElem_toArray, List.getElem_cons_succ, List.getElem_cons_zero, Act.put, List.setIfInBounds_toArray, List.set_cons_zero, List.set_cons_succ]
  refine tillK_take (i := 3) (v := .agg #[.int .u64 (ta : Nat), .int .u64 (ti : Nat)]) rfl (by kernel_rfl) (by kernel_rfl) (by kernel_rfl) (by kernel_rfl) (by kernel_rfl) (by kernel_rfl) (fun _ _ _ h => h) (Or.inl ⟨by rfl, ?hyl_3⟩) (by assumption) ?restl_3
  case hyl_3 =>
    rintro w' ⟨e0, e1, e2⟩
    go_simp
  try simp only [List.getElem_toArray, List.getElem_cons_succ, List.getElem_cons_zero, Act.put, List.setIfInBounds_toArray, List.set_cons_zero, List.set_cons_succ]
  refine tillK_step (i := 0) (by kernel_rfl) rfl (by rfl) ?_
  intro Kl_0 hKl_0
  have HKl_0 := Lib.hid hKl_0
  clear hKl_0
  go_wp2_with fail
  refine HKl_0.out.out _ _ (fun _ => S0) ?_
  refine tillK_step (i := 1) (by kernel_rfl) rfl (by rfl) ?_
  intro Kl_1 hKl_1
  have HKl_1 := Lib.hid hKl_1
  clear hKl_1
  go_wp2_with fail
  refine (HPL.out _ HDR.out).mono ?_
  rintro e w1 ⟨mb, mn, D, rfl, hT, hD, _, _, hb1⟩
  have hB1 := HDR.out.trans (hb1.mono HDR.out.size)
  have HB1 := Lib.hid hB1
  have HK1 := Lib.hid (HK0.out.later (HDK.out.trans (hb1.mono HDK.out.size)))
  have S1 : w1.cell? ⟨x, 0, none⟩ = some (.slice A.a n A.c) ∧ w1.cell? ⟨x + 1, 1, none⟩ = some (.int .u64 (ta : Nat)) ∧ w1.cell? ⟨x + 1, 2, none⟩ = some (.int .u64 (ti : Nat)) := ⟨HK1.out.cc, HK1.out.t0, HK1.out.t1⟩
  obtain ⟨v, hlk, hv⟩ := look_run hT hD HOX.out
  obtain ⟨px, hpx⟩ : ∃ p, pixC ⟨ta, ti⟩ 0 L = p := ⟨_, rfl⟩
  rw [hpx] at hlk hv
  obtain ⟨pb, hpb⟩ : ∃ p, px.isSome = p := ⟨_, rfl⟩
  rw [hpb] at hlk
  simp only at hlk
  have HPB := Lib.hid hpb
  have HV := Lib.hid hv
  have HPX := Lib.hid hpx
  clear hT hD hb1 hB1 hpx hpb hv S0
  dsimp only
  refine HKl_1.out.out _ _ (fun _ => S1) ?_
  refine tillK_step (i := 4) (by kernel_rfl) rfl (by rfl) ?_
  intro Kl_4 hKl_4
  have HKl_4 := Lib.hid hKl_4
  clear hKl_4
  go_wp2_with fail
  refine HKl_4.out.out _ _ (fun _ => S1) ?_
  clear hlk
  refine tillK_step (i := 5) (by kernel_rfl) rfl (by rfl) ?_
  intro Kl_5 hKl_5
  have HKl_5 := Lib.hid hKl_5
  clear hKl_5
  go_wp2_with fail
  refine HKl_5.out.out _ _ (fun _ => S1) ?_
  refine tillK_take (i := 6) (v := .int .i64 v) rfl (by kernel_rfl) (by kernel_rfl) (by kernel_rfl) (by kernel_rfl) (by kernel_rfl) (by kernel_rfl) (fun _ _ _ h => h) (Or.inl ⟨by rfl, ?hyl_6⟩) (by assumption) ?restl_6
  case hyl_6 =>
    rintro w' ⟨e0, e1, e2⟩
    go_simp
  try simp only [List.getElem_toArray, List.getElem_cons_succ, List.getElem_cons_zero, Act.put, List.setIfInBounds_toArray, List.set_cons_zero, List.set_cons_succ]
  refine tillK_take (i := 7) (v := .bool pb) rfl (by kernel_rfl) (by kernel_rfl) (by kernel_rfl) (by kernel_rfl) (by kernel_rfl) (by kernel_rfl) (fun _ _ _ h => h) (Or.inl ⟨by rfl, ?hyl_7⟩) (by assumption) ?restl_7
  case hyl_7 =>
    rintro w' ⟨e0, e1, e2⟩
    go_simp
  try simp only [List.getElem_toArray, List.getElem_cons_succ, List.getElem_cons_zero, Act.put, List.setIfInBounds_toArray, List.set_cons_zero, List.set_cons_succ]
  refine tillK_step (i := 8) (by kernel_rfl) rfl (by rfl) ?_
  intro Kl_8 hKl_8
  have HKl_8 := Lib.hid hKl_8
  clear hKl_8
  go_wp2_with fail
  refine HKl_8.out.out _ _ (fun _ => S1) ?_
  refine tillK_step (i := 9) (by kernel_rfl) rfl (by rfl) ?_
  intro Kl_9 hKl_9
  have HKl_9 := Lib.hid hKl_9
  clear hKl_9
  go_wp2_with fail
  refine HKl_9.out.out _ _ (fun h => by simp at h) ?_
  refine tillK_done (by kernel_rfl) ?_
  clear S1
  cases pb
  case false =>
    obtain rfl : px = none := by
      cases px
      · rfl
      · have := HPB.out; cases this
    have hfn := pix_none HPX.out
    have hr2 : r = if 64 ≤ L.length then (L, 5, false) else (L ++ [⟨⟨ta, ti⟩, P, 0⟩], 0, false) := by rw [← HR.out]; unfold begC; rw [HMB.out, hfn]; rfl
    have hp8 : pn ≤ 8 := by
      have h1 := HMB.out
      unfold mayC at h1
      rw [Bool.and_eq_true, Bool.and_eq_true, decide_eq_true_iff, decide_eq_true_iff, HPN.out] at h1
      exact h1.2.1
    have HR2 := Lib.hid hr2
    clear hr2 hfn
    have hCL := cloneU_any pn c a P HPN.out (by omega) w1.drew (HPW.out.later HB1.out.drew)
    have HCL := Lib.hid hCL
    clear hCL
    have cc := HK1.out.cc
    have t0 := HK1.out.t0
    have t1 := HK1.out.t1
    have pa := HK1.out.pa
    simp only [HPN.out] at t0 t1 pa
    go_upto_region 5 with (fail)
    have S1 : w1.drew.cell? ⟨x, 0, none⟩ = some (.slice A.a n A.c) ∧ w1.drew.cell? ⟨x + 1, 1, none⟩ = some (.int .u64 (ta : Nat)) ∧ w1.drew.cell? ⟨x + 1, 2, none⟩ = some (.int .u64 (ti : Nat)) ∧ w1.drew.cell? ⟨x + 1, 6, none⟩ = some (.slice a pn c) := ⟨cc, t0, t1, pa⟩
    refine tillK_begin (S := fun w' => w'.cell? ⟨x, 0, none⟩ = some (.slice A.a n A.c) ∧ w'.cell? ⟨x + 1, 1, none⟩ = some (.int .u64 (ta : Nat)) ∧ w'.cell? ⟨x + 1, 2, none⟩ = some (.int .u64 (ti : Nat)) ∧ w'.cell? ⟨x + 1, 6, none⟩ = some (.slice a pn c)) (k := 11) (by kernel_rfl) ?_
    refine tillK_take (i := 0) (v := .agg #[.slice A.a n A.c]) rfl (by kernel_rfl) (by kernel_rfl) (by kernel_rfl) (by kernel_rfl) (by kernel_rfl) (by kernel_rfl) (fun _ _ _ h => h) (Or.inl ⟨by rfl, ?hyn_0⟩) (by assumption) ?restn_0
    case hyn_0 =>
      rintro w' ⟨e0, e1, e2, e3⟩
      go_simp
    try simp only [List.getElem_toArray, List.getElem_cons_zero, Act.put, List.setIfInBounds_toArray, List.set_cons_zero, List.set_cons_succ]
    refine tillK_take (i := 1) (v := .pointer (some ⟨x + 1, 1, none⟩)) rfl (by kernel_rfl) (by kernel_rfl) (by kernel_rfl) (by kernel_rfl) (by kernel_rfl) (by kernel_rfl) (fun _ _ _ h => h) (Or.inl ⟨by rfl, ?hyn_1⟩) (by assumption) ?restn_1
    case hyn_1 =>
      rintro w' ⟨e0, e1, e2, e3⟩
      go_simp
    try simp only [List.getElem_toArray, List.getElem_cons_succ, List.getElem_cons_zero, Act.put, List.setIfInBounds_toArray, List.set_cons_zero, List.set_cons_succ]
    refine tillK_take (i := 2) (v := .agg #[.int .u64 (ta : Nat), .int .u64 (ti : Nat)]) rfl (by kernel_rfl) (by kernel_rfl) (by kernel_rfl) (by kernel_rfl) (by kernel_rfl) (by kernel_rfl) (fun _ _ _ h => h) (Or.inl ⟨by rfl, ?hyn_2⟩) (by assumption) ?restn_2
    case hyn_2 =>
      rintro w' ⟨e0, e1, e2, e3⟩
      go_simp
    try simp only [List.getElem_toArray, List.getElem_cons_succ, List.getElem_cons_zero, Act.put, List.setIfInBounds_toArray, List.set_cons_zero, List.set_cons_succ]
    refine tillK_take (i := 3) (v := .pointer (some ⟨x + 1, 6, none⟩)) rfl (by kernel_rfl) (by kernel_rfl) (by kernel_rfl) (by kernel_rfl) (by kernel_rfl) (by kernel_rfl) (fun _ _ _ h => h) (Or.inl ⟨by rfl, ?hyn_3⟩) (by assumption) ?restn_3
    case hyn_3 =>
      rintro w' ⟨e0, e1, e2, e3⟩
      go_simp
    try simp only [List.getElem_toArray, List.getElem_cons_succ, List.getElem_cons_zero, Act.put, List.setIfInBounds_toArray, List.set_cons_zero, List.set_cons_succ]
    refine tillK_take (i := 4) (v := .slice a pn c) rfl (by kernel_rfl) (by kernel_rfl) (by kernel_rfl) (by kernel_rfl) (by kernel_rfl) (by kernel_rfl) (fun _ _ _ h => h) (Or.inl ⟨by rfl, ?hyn_4⟩) (by assumption) ?restn_4
    case hyn_4 =>
      rintro w' ⟨e0, e1, e2, e3⟩
      go_simp
    try simp only [List.getElem_toArray, List.getElem_cons_succ, List.getElem_cons_zero, Act.put, List.setIfInBounds_toArray, List.set_cons_zero, List.set_cons_succ]
    refine tillK_step (i := 5) (by kernel_rfl) rfl (by rfl) ?_
    intro Kn_5 hKn_5
    have HKn_5 := Lib.hid hKn_5
    clear hKn_5
    go_wp2_with fail
    refine HCL.out.mono ?_
    rintro e w2 ⟨a2, d2, rfl, q2, b2, l2⟩
    rw [HPN.out] at q2 ⊢
    have hB2 := HB1.out.drew.trans (b2.mono HB1.out.drew.size)
    have hbd : Below w1.heap.size w1 w2 := (show Below w1.heap.size w1 w1.drew from (Below.refl _ _).drew).trans b2
    have HB2 := Lib.hid hB2
    have HK2 := Lib.hid (HK1.out.later hbd)
    have hL2 : LI a2 w1.heap.size w2.heap.size := l2
    have HL2 := Lib.hid hL2
    obtain ⟨_, _, e2, R2, _, m2, M2⟩ := q2.form nuT
    injection e2 with e2 g2 f2
    clear g2
    subst e2 f2
    have hx0 := HX.out
    have hw0 := HBW.out.size
    have hw1 := HB1.out.size
    have hw2 := hbd.size
    have had := added_any B L A ⟨⟨⟨ta, ti⟩, P, 0⟩, a2, d2⟩ w2 (HC.out.later HB2.out) (by have := HBB.out; omega) R2 (hL2.mono (by have := HBB.out; omega) (Nat.le_refl _)) ⟨by simp only; exact m2, M2⟩ (fun z hz => hL2.ne (.inl (by have := (HC0.out.lo z hz).2; omega)))
    simp only at had
    rw [← HR2.out] at had
    unfold coV dlV at had
    rw [HN.out] at had
    simp only [HPN.out] at had
    have HAD := Lib.hid had
    have S2 : w2.cell? ⟨x, 0, none⟩ = some (.slice A.a n A.c) ∧ w2.cell? ⟨x + 1, 1, none⟩ = some (.int .u64 (ta : Nat)) ∧ w2.cell? ⟨x + 1, 2, none⟩ = some (.int .u64 (ti : Nat)) ∧ w2.cell? ⟨x + 1, 6, none⟩ = some (.slice a pn c) := ⟨HK2.out.cc, HK2.out.t0, HK2.out.t1, by have := HK2.out.pa; simp only [HPN.out] at this; exact this⟩
    clear q2 b2 l2 hB2 hbd hL2 R2 m2 M2 had hw0 hw1 hw2 hx0 cc t0 t1 pa S1
    dsimp only
    refine HKn_5.out.out _ _ (fun _ => S2) ?_
    refine tillK_step (i := 6) (by kernel_rfl) rfl (by rfl) ?_
    intro Kn_6 hKn_6
    have HKn_6 := Lib.hid hKn_6
    clear hKn_6
    go_wp2_with fail
    refine HKn_6.out.out _ _ (fun _ => S2) ?_
    refine tillK_step (i := 7) (by kernel_rfl) rfl (by rfl) ?_
    intro Kn_7 hKn_7
    have HKn_7 := Lib.hid hKn_7
    clear hKn_7
    go_wp2_with fail
    refine HAD.out.mono ?_
    rintro e w3 ⟨⟨A2, rfl, hM2, hom, hb2⟩, rr, hg, hgr⟩
    obtain ⟨⟨L2, n2, b2⟩, hr2⟩ : ∃ z, r = z := ⟨_, rfl⟩
    subst hr2
    obtain ⟨g, hG, hgA⟩ := grown_some hg
    have hxx := HX.out
    have hw2s := hG.size
    have hw1s := HB2.out.size
    have hsW := HS.out
    have hgx : g < x ∨ x + 1 + 1 + 1 < g := by
      rcases hgA with e | e
      · obtain ⟨p, e1, rfl⟩ := hgr g e
        have := HC0.out.lo p e1
        exact .inl (by omega)
      · exact .inr (by omega)
    have HK3 := Lib.hid (HK2.out.grown hG hgx)
    have hpl2 : ∀ y ∈ A2.om, (LI y.a B w.heap.size ∨ LI y.a w1.heap.size w2.heap.size) := fun y hy => by
      rcases hom with e | e
      · rw [e] at hy; exact .inl (HLP.out y hy)
      · rw [e] at hy
        rcases List.mem_append.1 hy with h | h
        · exact .inl (HLP.out y h)
        · obtain rfl : y = ⟨⟨⟨ta, ti⟩, P, 0⟩, a2, d2⟩ := by simpa using h
          exact .inr HL2.out
    have hw11 := HB1.out.size
    have hne2 : ∀ y ∈ A2.om, NE y.a (x + 1 + 1) ∧ NE y.a (x + 1 + 1 + 1) := fun y hy => by
      rcases hpl2 y hy with h | h
      · exact ⟨h.ne (.inr (by omega)), h.ne (.inr (by omega))⟩
      · exact ⟨h.ne (.inl (by omega)), h.ne (.inl (by omega))⟩
    have HFIN := Lib.hid (show DcP B w (L2, n2, b2) (.returned (.tuple #[.agg #[.slice A2.a L2.length A2.c], anV n2 b2])) (finW w3 (x + 1 + 1) (x + 1 + 1 + 1) L2 A2 n2 b2) from by
      obtain ⟨m1, m2, m3⟩ := HK3.out.r.fin hM2 n2 b2 hne2
      have hBl := HBB.out
      have hb0 : Below B w w3 := ((HBW.out.trans (HB2.out.mono HBW.out.size)).mono hBl).trans hb2
      have hb : Below B w (finW w3 (x + 1 + 1) (x + 1 + 1 + 1) L2 A2 n2 b2) := hb0.trans (m2 _ (Below.refl _ _) (by omega))
      refine ⟨A2, rfl, m1, fun y hy => ?_, hb⟩
      rcases hpl2 y hy with h | h
      · exact h.mono (Nat.le_refl _) hb.size
      · exact h.mono (by omega) (Nat.le_trans hw2s m3))
    simp only [finW, set5a] at HFIN
    obtain ⟨u0, e0⟩ := HK3.out.r.s.so 0 (by decide)
    obtain ⟨v0, f0⟩ := HK3.out.r.a.so 0 (by decide)
    obtain ⟨v1, f1⟩ := HK3.out.r.a.so 1 (by decide)
    obtain ⟨v2, f2⟩ := HK3.out.r.a.so 2 (by decide)
    obtain ⟨v3, f3⟩ := HK3.out.r.a.so 3 (by decide)
    obtain ⟨v4, f4⟩ := HK3.out.r.a.so 4 (by decide)
    have z4 := HK3.out.r.s.fz
    have z5 := HK3.out.r.a.fz
    have S3 : w3.cell? ⟨x, 0, none⟩ = some (.slice A.a n A.c) ∧ w3.cell? ⟨x + 1, 1, none⟩ = some (.int .u64 (ta : Nat)) ∧ w3.cell? ⟨x + 1, 2, none⟩ = some (.int .u64 (ti : Nat)) ∧ w3.cell? ⟨x + 1, 6, none⟩ = some (.slice a pn c) := ⟨HK3.out.cc, HK3.out.t0, HK3.out.t1, by have := HK3.out.pa; simp only [HPN.out] at this; exact this⟩
    have HS9 := Lib.hid (fun v => (show (w3.setCell ⟨x + 1 + 1, 0, none⟩ v).cell? ⟨x, 0, none⟩ = some (.slice A.a n A.c) ∧ (w3.setCell ⟨x + 1 + 1, 0, none⟩ v).cell? ⟨x + 1, 1, none⟩ = some (.int .u64 (ta : Nat)) ∧ (w3.setCell ⟨x + 1 + 1, 0, none⟩ v).cell? ⟨x + 1, 2, none⟩ = some (.int .u64 (ti : Nat)) ∧ (w3.setCell ⟨x + 1 + 1, 0, none⟩ v).cell? ⟨x + 1, 6, none⟩ = some (.slice a pn c) from
      ⟨(World.cell?_setCell_far _ _ _ _ (by simp only; omega)).trans S3.1, (World.cell?_setCell_far _ _ _ _ (by simp only; omega)).trans S3.2.1, (World.cell?_setCell_far _ _ _ _ (by simp only; omega)).trans S3.2.2.1, (World.cell?_setCell_far _ _ _ _ (by simp only; omega)).trans S3.2.2.2⟩))
    clear hM2 hom hb2 hg hgr hG hgA hxx hw2s hw1s hsW hgx hpl2 hw11 hne2 S2
    dsimp only
    refine HKn_7.out.out _ _ (fun _ => S3) ?_
    refine tillK_take (i := 8) (v := .agg #[.slice A2.a L2.length A2.c]) rfl (by kernel_rfl) (by kernel_rfl) (by kernel_rfl) (by kernel_rfl) (by kernel_rfl) (by kernel_rfl) (fun _ _ _ h => h) (Or.inl ⟨by rfl, ?hyn_8⟩) (by assumption) ?restn_8
    case hyn_8 =>
      rintro w' ⟨e0, e1, e2, e3⟩
      go_simp
    try simp only [List.getElem_toArray, List.getElem_cons_succ, List.getElem_cons_zero, Act.put, List.setIfInBounds_toArray, List.set_cons_zero, List.set_cons_succ]
    refine tillK_take (i := 9) (v := anV n2 b2) rfl (by kernel_rfl) (by kernel_rfl) (by kernel_rfl) (by kernel_rfl) (by kernel_rfl) (by kernel_rfl) (fun _ _ _ h => h) (Or.inl ⟨by rfl, ?hyn_9⟩) (by assumption) ?restn_9
    case hyn_9 =>
      rintro w' ⟨e0, e1, e2, e3⟩
      go_simp
    try simp only [List.getElem_toArray, List.getElem_cons_succ, List.getElem_cons_zero, Act.put, List.setIfInBounds_toArray, List.set_cons_zero, List.set_cons_succ]
    refine tillK_step (i := 10) (by kernel_rfl) rfl (by rfl) ?_
    intro Kn_10 hKn_10
    have HKn_10 := Lib.hid hKn_10
    clear hKn_10
    go_wp2_with fail
    refine HKn_10.out.out _ _ (fun _ => HS9.out _) ?_
    refine tillK_step (i := 11) (by kernel_rfl) rfl (by rfl) ?_
    intro Kn_11 hKn_11
    have HKn_11 := Lib.hid hKn_11
    clear hKn_11
    go_wp2_with fail
    refine HKn_11.out.out _ _ (fun h => by simp at h) ?_
    refine tillK_done (by kernel_rfl) ?_
    go_wp2_with fail
    refine bodyPost_ret (v := .tuple #[.agg #[.slice A2.a L2.length A2.c], anV n2 b2]) (by simp [results, Try.results28, go_sem, e0, f0, f1, f2, f3, f4]) rfl ?_
    exact HFIN.out
  obtain ⟨k, rfl⟩ : ∃ k, px = some k := by
    cases px
    · have := HPB.out; cases this
    · exact ⟨_, rfl⟩
  obtain rfl : v = (k : Nat) := HV.out k rfl
  obtain ⟨d, hd, hfd⟩ := pix_some HPX.out
  obtain ⟨y, hy, hyx, hym⟩ := deal_at HC.out.m hd
  subst hyx
  have hkl : k < n := by rw [← HN.out]; exact (List.getElem?_eq_some_iff.1 hd).1
  have hMM := (HC.out.later HB1.out).m
  obtain ⟨b, off, ea, hgl, p0, p1, p2, p3⟩ := Dlm.cells hMM.row hy
  have HYP := Lib.hid (HC.out.m.parts y hym)
  have HYL := Lib.hid (HPP.out y.x (List.mem_of_getElem? hd))
  have cc := HK1.out.cc
  rw [ea] at cc
  have HEA := Lib.hid ea
  have i0 : (0 : Int) ≤ (k : Int) := by omega
  have i1 : (k : Int) < (n : Int) := by omega
  have i2 : ¬ (k : Int) < 0 := by omega
  obtain ⟨⟨⟨ya, yi⟩, yp, ys⟩, yl, yc⟩ := y
  simp only at p0 p1 p2 p3 hfd hd HYP HYL
  have HFD := Lib.hid hfd
  have pa := HK1.out.pa
  simp only [HPN.out] at pa
  clear ea hd hfd hy hym hMM
  obtain ⟨W2, hW2⟩ : ∃ V, w1.alloc (.cells #[.int .u64 (ya : Nat), .int .u64 (yi : Nat), .slice yl yp.length yc, .int .i64 ys] 31) = V := ⟨_, rfl⟩
  obtain ⟨x8, hx8⟩ : ∃ z, w1.heap.size = z := ⟨_, rfl⟩
  have hb2 : Below w1.heap.size w1 W2 := hW2 ▸ (Below.refl _ _).alloc (Nat.le_refl _) _
  have h82 : W2.cell? ⟨x8, 2, none⟩ = some (.slice yl yp.length yc) := by rw [← hW2, ← hx8]; simp [go_sem]
  have h83 : W2.cell? ⟨x8, 3, none⟩ = some (.int .i64 ys) := by rw [← hW2, ← hx8]; simp [go_sem]
  have h8l : x8 < W2.heap.size := by rw [← hW2, ← hx8]; simp
  have h8x : x + 1 + 1 + 1 < x8 := by have := HB1.out.size; have := HS.out; omega
  have HB2 := Lib.hid (HB1.out.trans (hb2.mono HB1.out.size))
  have HK2 := Lib.hid (HK1.out.later hb2)
  have HW2 := Lib.hid hW2
  have HX8 := Lib.hid hx8
  have cc2 := HK2.out.cc
  rw [HEA.out] at cc2
  have pa2 := HK2.out.pa
  simp only [HPN.out] at pa2
  clear hW2 hx8 hb2
  go_upto_region 7 with (fail)
  rw [HW2.out, HX8.out]
  clear p0 p1 p2 p3 cc pa
  by_cases hs0 : ys = 0
  case neg =>
    obtain ⟨bb, hbb⟩ : ∃ b, decide (ys = 1) = b := ⟨_, rfl⟩
    obtain rfl : r = (L, 13, bb) := by
      rw [← HR.out]; unfold begC
      rw [HMB.out, HFD.out]
      simp [hs0, hbb]
    have g1 : (ys == 0) = false := by simpa using hs0
    have g3 : (ys != 0) = true := by simpa using hs0
    have g2 : (ys == 1) = bb := by rw [← hbb]; rw [Bool.eq_iff_iff]; simp
    clear hbb hs0
    have HFIN := Lib.hid (show DcP B w (L, 13, bb) (.returned (.tuple #[.agg #[.slice A.a n A.c], anV 13 bb])) (finW W2 (x + 1 + 1) (x + 1 + 1 + 1) L A 13 bb).drew from by
      apply DcP.drew
      have hx := HX.out
      obtain ⟨m1, m2, m3⟩ := HK2.out.r.fin (HC.out.m.later HB2.out) 13 bb (fun y hy => ⟨(HLP.out y hy).ne (.inr (by omega)), (HLP.out y hy).ne (.inr (by omega))⟩)
      have hb0 := HBW.out.trans (HB2.out.mono HBW.out.size)
      have hb : Below w.heap.size w (finW W2 (x + 1 + 1) (x + 1 + 1 + 1) L A 13 bb) := hb0.trans (m2 _ (Below.refl _ _) (by omega))
      exact ⟨A, by rw [← HN.out], m1, fun y hy => (HLP.out y hy).mono (Nat.le_refl _) hb.size, hb.mono HBB.out⟩)
    simp only [finW, set5a, HN.out, HEA.out] at HFIN
    go_upto_region 8 with (fail)
    have S1 : W2.drew.cell? ⟨x, 0, none⟩ = some (.slice (some ⟨b, off, none⟩) n A.c) ∧ W2.drew.cell? ⟨x8, 3, none⟩ = some (.int .i64 ys) := ⟨cc2, h83⟩
    obtain ⟨u0, e0⟩ := HK2.out.r.s.so 0 (by decide)
    obtain ⟨v0, f0⟩ := HK2.out.r.a.so 0 (by decide)
    obtain ⟨v1, f1⟩ := HK2.out.r.a.so 1 (by decide)
    obtain ⟨v2, f2⟩ := HK2.out.r.a.so 2 (by decide)
    obtain ⟨v3, f3⟩ := HK2.out.r.a.so 3 (by decide)
    obtain ⟨v4, f4⟩ := HK2.out.r.a.so 4 (by decide)
    have z4 := HK2.out.r.s.fz
    have z5 := HK2.out.r.a.fz
    have HS9 := Lib.hid (fun v => (show (W2.setCell ⟨x + 1 + 1, 0, none⟩ v).drew.cell? ⟨x, 0, none⟩ = some (.slice (some ⟨b, off, none⟩) n A.c) ∧ (W2.setCell ⟨x + 1 + 1, 0, none⟩ v).drew.cell? ⟨x8, 3, none⟩ = some (.int .i64 ys) from ⟨(World.cell?_setCell_far _ _ _ _ (by simp only; omega)).trans cc2, (World.cell?_setCell_far _ _ _ _ (by simp only; omega)).trans h83⟩))
    clear cc2 pa2 h82 h83
    refine tillK_begin (S := fun w' => w'.cell? ⟨x, 0, none⟩ = some (.slice (some ⟨b, off, none⟩) n A.c) ∧ w'.cell? ⟨x8, 3, none⟩ = some (.int .i64 ys)) (k := 6) (by kernel_rfl) ?_
    refine tillK_take (i := 0) (v := .agg #[.slice (some ⟨b, off, none⟩) n A.c]) rfl (by kernel_rfl) (by kernel_rfl) (by kernel_rfl) (by kernel_rfl) (by kernel_rfl) (by kernel_rfl) (fun _ _ _ h => h) (Or.inl ⟨by rfl, ?hyq_0⟩) (by assumption) ?restq_0
    case hyq_0 =>
      rintro w' ⟨e0, e1⟩
      go_simp
    try simp only [List.getElem_toArray, List.getElem_cons_zero, Act.put, List.setIfInBounds_toArray, List.set_cons_zero, List.set_cons_succ]
    refine tillK_take (i := 1) (v := .pointer (some ⟨x8, 3, none⟩)) rfl (by kernel_rfl) (by kernel_rfl) (by kernel_rfl) (by kernel_rfl) (by kernel_rfl) (by kernel_rfl) (fun _ _ _ h => h) (Or.inl ⟨by rfl, ?hyq_1⟩) (by assumption) ?restq_1
    case hyq_1 =>
      rintro w' ⟨e0, e1⟩
      go_simp
    try simp only [List.getElem_toArray, List.getElem_cons_succ, List.getElem_cons_zero, Act.put, List.setIfInBounds_toArray, List.set_cons_zero, List.set_cons_succ]
    refine tillK_take (i := 2) (v := .int .i64 ys) rfl (by kernel_rfl) (by kernel_rfl) (by kernel_rfl) (by kernel_rfl) (by kernel_rfl) (by kernel_rfl) (fun _ _ _ h => h) (Or.inl ⟨by rfl, ?hyq_2⟩) (by assumption) ?restq_2
    case hyq_2 =>
      rintro w' ⟨e0, e1⟩
      go_simp
    try simp only [List.getElem_toArray, List.getElem_cons_succ, List.getElem_cons_zero, Act.put, List.setIfInBounds_toArray, List.set_cons_zero, List.set_cons_succ]
    refine tillK_take (i := 3) (v := .bool bb) rfl (by kernel_rfl) (by kernel_rfl) (by kernel_rfl) (by kernel_rfl) (by kernel_rfl) (by kernel_rfl) (fun _ _ _ h => h) (Or.inl ⟨by rfl, ?hyq_3⟩) (by assumption) ?restq_3
    case hyq_3 =>
      rintro w' ⟨e0, e1⟩
      go_simp
    try simp only [List.getElem_toArray, List.getElem_cons_succ, List.getElem_cons_zero, Act.put, List.setIfInBounds_toArray, List.set_cons_zero, List.set_cons_succ]
    refine tillK_take (i := 4) (v := .agg #[.int .i64 13, .string ⟨#[]⟩, .int .u64 0, .bool false, .bool bb]) rfl (by kernel_rfl) (by kernel_rfl) (by kernel_rfl) (by kernel_rfl) (by kernel_rfl) (by kernel_rfl) (fun _ _ _ h => h) (Or.inl ⟨by rfl, ?hyq_4⟩) (by assumption) ?restq_4
    case hyq_4 =>
      rintro w' ⟨e0, e1⟩
      go_simp
    try simp only [List.getElem_toArray, List.getElem_cons_succ, List.getElem_cons_zero, Act.put, List.setIfInBounds_toArray, List.set_cons_zero, List.set_cons_succ]
    refine tillK_step (i := 5) (by kernel_rfl) rfl (by rfl) ?_
    intro Kq_5 hKq_5
    have HKq_5 := Lib.hid hKq_5
    clear hKq_5
    go_wp2_with fail
    refine HKq_5.out.out _ _ (fun _ => HS9.out _) ?_
    refine tillK_step (i := 6) (by kernel_rfl) rfl (by rfl) ?_
    intro Kq_6 hKq_6
    have HKq_6 := Lib.hid hKq_6
    clear hKq_6
    go_wp2_with fail
    refine HKq_6.out.out _ _ (fun h => by simp at h) ?_
    refine tillK_done (by kernel_rfl) ?_
    go_wp2_with fail
    refine bodyPost_ret (v := .tuple #[.agg #[.slice (some ⟨b, off, none⟩) n A.c], anV 13 bb]) (by simp [results, Try.results28, go_sem, e0, f0, f1, f2, f3, f4]) rfl ?_
    exact HFIN.out
  subst hs0
  have hEQ := equalN_any yp.length yc pn c yl a yp P rfl HYL.out HPN.out hpl W2 (HYP.out.later HB2.out) (HPW.out.later HB2.out)
  obtain ⟨eb, heb⟩ : ∃ b, decide (yp = P) = b := ⟨_, rfl⟩
  rw [heb] at hEQ
  have HEQ := Lib.hid hEQ
  have HEB := Lib.hid heb
  clear hEQ heb
  go_wp2_with fail
  refine HEQ.out.mono ?_
  rintro e w3 ⟨rfl, hb3⟩
  have HB3 := Lib.hid (HB2.out.trans (hb3.mono HB2.out.size))
  have HK3 := Lib.hid (HK2.out.later hb3)
  clear hb3 cc2 pa2 h82 h83 h8l
  cases eb
  case false =>
    obtain rfl : r = (L, 8, false) := by
      rw [← HR.out]; unfold begC
      rw [HMB.out, HFD.out]
      simp [of_decide_eq_false HEB.out]
    have HFIN := Lib.hid (show DcP B w (L, 8, false) (.returned (.tuple #[.agg #[.slice A.a n A.c], anV 8 false])) (finW w3 (x + 1 + 1) (x + 1 + 1 + 1) L A 8 false) from by
      have hx := HX.out
      obtain ⟨m1, m2, m3⟩ := HK3.out.r.fin (HC.out.m.later HB3.out) 8 false (fun y hy => ⟨(HLP.out y hy).ne (.inr (by omega)), (HLP.out y hy).ne (.inr (by omega))⟩)
      have hb0 := HBW.out.trans (HB3.out.mono HBW.out.size)
      have hb : Below w.heap.size w (finW w3 (x + 1 + 1) (x + 1 + 1 + 1) L A 8 false) := hb0.trans (m2 _ (Below.refl _ _) (by omega))
      exact ⟨A, by rw [← HN.out], m1, fun y hy => (HLP.out y hy).mono (Nat.le_refl _) hb.size, hb.mono HBB.out⟩)
    simp only [finW, set5a, HN.out] at HFIN
    obtain ⟨u0, e0⟩ := HK3.out.r.s.so 0 (by decide)
    obtain ⟨v0, f0⟩ := HK3.out.r.a.so 0 (by decide)
    obtain ⟨v1, f1⟩ := HK3.out.r.a.so 1 (by decide)
    obtain ⟨v2, f2⟩ := HK3.out.r.a.so 2 (by decide)
    obtain ⟨v3, f3⟩ := HK3.out.r.a.so 3 (by decide)
    obtain ⟨v4, f4⟩ := HK3.out.r.a.so 4 (by decide)
    have z4 := HK3.out.r.s.fz
    have z5 := HK3.out.r.a.fz
    have cc := HK3.out.cc
    go_wp2_with fail
    refine bodyPost_ret (v := .tuple #[.agg #[.slice A.a n A.c], anV 8 false]) (by simp [results, Try.results28, go_sem, e0, f0, f1, f2, f3, f4]) rfl ?_
    exact HFIN.out
  obtain rfl : r = (L, 0, false) := by
    rw [← HR.out]; unfold begC
    rw [HMB.out, HFD.out]
    simp [of_decide_eq_true HEB.out]
  have HFIN := Lib.hid (show DcP B w (L, 0, false) (.returned (.tuple #[.agg #[.slice A.a n A.c], anV 0 false])) (finW w3 (x + 1 + 1) (x + 1 + 1 + 1) L A 0 false) from by
    have hx := HX.out
    obtain ⟨m1, m2, m3⟩ := HK3.out.r.fin (HC.out.m.later HB3.out) 0 false (fun y hy => ⟨(HLP.out y hy).ne (.inr (by omega)), (HLP.out y hy).ne (.inr (by omega))⟩)
    have hb0 := HBW.out.trans (HB3.out.mono HBW.out.size)
    have hb : Below w.heap.size w (finW w3 (x + 1 + 1) (x + 1 + 1 + 1) L A 0 false) := hb0.trans (m2 _ (Below.refl _ _) (by omega))
    exact ⟨A, by rw [← HN.out], m1, fun y hy => (HLP.out y hy).mono (Nat.le_refl _) hb.size, hb.mono HBB.out⟩)
  simp only [finW, set5a, HN.out] at HFIN
  obtain ⟨u0, e0⟩ := HK3.out.r.s.so 0 (by decide)
  obtain ⟨v0, f0⟩ := HK3.out.r.a.so 0 (by decide)
  obtain ⟨v1, f1⟩ := HK3.out.r.a.so 1 (by decide)
  obtain ⟨v2, f2⟩ := HK3.out.r.a.so 2 (by decide)
  obtain ⟨v3, f3⟩ := HK3.out.r.a.so 3 (by decide)
  obtain ⟨v4, f4⟩ := HK3.out.r.a.so 4 (by decide)
  have z4 := HK3.out.r.s.fz
  have z5 := HK3.out.r.a.fz
  have cc := HK3.out.cc
  go_wp2_with fail
  refine bodyPost_ret (v := .tuple #[.agg #[.slice A.a n A.c], anV 0 false]) (by simp [results, Try.results28, go_sem, e0, f0, f1, f2, f3, f4]) rfl ?_
  exact HFIN.out
end Go.Proofs.Ytohhkacnjhgamaa
