/- Whether a coordinator is right: the program's Right. -/
import Derived.Test.YtohhkacnjhgamaaPh
namespace Go.Proofs.Ytohhkacnjhgamaa
open Go.RowKit Go.Maps

set_option maxRecDepth 100000 in
set_option maxHeartbeats 8000000 in
theorem pRightC_any (L : List Dl) (A : Cad) (hl : L.length ≤ 140737488351232) (hp : ∀ x ∈ L, x.parts.length ≤ 140737488351232) (ho : ∀ x ∈ L, okX x.t) (w : World) (hM : CoM w L A) :
    Calls Try.prog 12 #[coV L A] w fun e w' => e = .returned (.bool (rightC L)) ∧ Below w.heap.size w w' := by
  obtain ⟨n, hn⟩ : ∃ n, L.length = n := ⟨_, rfl⟩
  obtain ⟨W, hW⟩ : ∃ W, w.alloc (.cells #[.slice A.a n A.c] 24) = W := ⟨_, rfl⟩
  obtain ⟨x1, hx1⟩ : ∃ x, w.heap.size = x := ⟨_, rfl⟩
  have hX : Below w.heap.size w W ∧ W.cell? ⟨x1, 0, none⟩ = some (.slice A.a n A.c) ∧ x1 < W.heap.size := by
    rw [← hW, ← hx1]
    exact ⟨by go_grown, by simp [go_sem], by simp⟩
  obtain ⟨hB, c0, hlt⟩ := hX
  have HPL := Lib.hid (show ∀ w', Below W.heap.size W w' → Calls Try.prog 17 #[.agg #[.slice A.a n A.c]] w' (PlP w' L) from fun w' h => by have := places_any L A w' ((hM.later hB).later h) hl ho; unfold coV at this; rw [hn] at this; exact this)
  have HCF := Lib.hid (show ∀ w', Below W.heap.size W w' → Calls Try.prog 22 #[.slice A.a n A.c, .func (.func 20) #[] #[]] w' fun e w2 => e = .returned (.bool (!L.all dlOk)) ∧ Below w'.heap.size w' w2 from fun w' h => by
    have hm := (hM.later hB).later h
    have := containsD_any n A.c A.a A.om (by rw [hM.olen, hn]) (by omega) (fun y hy => hp y.x (by rw [← hM.om]; exact List.mem_map.2 ⟨y, hy, rfl⟩)) w' hm.row hm.parts
    rw [hM.om] at this; exact this)
  have HCC := Lib.hid (fun w' (h : Below W.heap.size W w') => (h.cell (p := ⟨x1, 0, none⟩) hlt).trans c0)
  have HB := Lib.hid hB
  have HW := Lib.hid hW
  have HX1 := Lib.hid hx1
  have HN := Lib.hid hn
  show Calls Try.prog 12 #[.agg #[.slice A.a L.length A.c]] w _
  obtain ⟨v, hv⟩ : ∃ v, rightC L = v := ⟨_, rfl⟩
  have HV := Lib.hid (show v = (decide (n ≤ 64) && (dstC [] L && L.all dlOk)) from by rw [← hv, ← hn]; rfl)
  rw [hn, hv]
  clear hB hW hx1 hn hv hM hp ho hlt
  by_cases h64 : 64 < n
  case pos =>
    obtain rfl : v = false := by rw [HV.out, decide_eq_false (by omega)]; rfl
    have g : decide ((n : Int) ≤ 64) = false := decide_eq_false (by omega)
    have g2 : decide (n ≤ 64) = false := decide_eq_false (by omega)
    go_enter Try.func12, Try.ntmps12
    go_upto_region 2 with (fail)
    rw [HW.out, HX1.out]
    have S0 : W.drew.cell? ⟨x1, 0, none⟩ = some (.slice A.a n A.c) := c0
    have HDR := Lib.hid (show Below W.heap.size W W.drew from (Below.refl _ _).drew)
    refine tillK_begin (S := fun w' => w'.cell? ⟨x1, 0, none⟩ = some (.slice A.a n A.c)) (k := 20) (by kernel_rfl) ?_
    refine tillK_take (i := 0) (v := .pointer (some ⟨x1, 0, none⟩)) rfl (by kernel_rfl) (by kernel_rfl) (by kernel_rfl) (by kernel_rfl) (by kernel_rfl) (by kernel_rfl) (fun _ _ _ h => h) (Or.inl ⟨by rfl, ?hya_0⟩) (by assumption) ?resta_0
    case hya_0 =>
      intro w' e0
      go_simp
    try simp only [List.getElem_toArray, List.getElem_cons_zero, Act.put, List.setIfInBounds_toArray, List.set_cons_zero, List.set_cons_succ]
    refine tillK_take (i := 1) (v := .slice A.a n A.c) rfl (by kernel_rfl) (by kernel_rfl) (by kernel_rfl) (by kernel_rfl) (by kernel_rfl) (by kernel_rfl) (fun _ _ _ h => h) (Or.inl ⟨by rfl, ?hya_1⟩) (by assumption) ?resta_1
    case hya_1 =>
      intro w' e0
      go_simp
    try simp only [List.getElem_toArray, List.getElem_cons_succ, List.getElem_cons_zero, Act.put, List.setIfInBounds_toArray, List.set_cons_zero, List.set_cons_succ]
    refine tillK_take (i := 2) (v := .int .i64 n) rfl (by kernel_rfl) (by kernel_rfl) (by kernel_rfl) (by kernel_rfl) (by kernel_rfl) (by kernel_rfl) (fun _ _ _ h => h) (Or.inl ⟨by rfl, ?hya_2⟩) (by assumption) ?resta_2
    case hya_2 =>
      intro w' e0
      go_simp
    try simp only [List.getElem_toArray, List.getElem_cons_succ, List.getElem_cons_zero, Act.put, List.setIfInBounds_toArray, List.set_cons_zero, List.set_cons_succ]
    refine tillK_take (i := 3) (v := .bool false) rfl (by kernel_rfl) (by kernel_rfl) (by kernel_rfl) (by kernel_rfl) (by kernel_rfl) (by kernel_rfl) (fun _ _ _ h => h) (Or.inl ⟨by rfl, ?hya_3⟩) (by assumption) ?resta_3
    case hya_3 =>
      intro w' e0
      go_simp
    try simp only [List.getElem_toArray, List.getElem_cons_succ, List.getElem_cons_zero, Act.put, List.setIfInBounds_toArray, List.set_cons_zero, List.set_cons_succ]
    refine tillK_take (i := 4) (v := .bool false) rfl (by kernel_rfl) (by kernel_rfl) (by kernel_rfl) (by kernel_rfl) (by kernel_rfl) (by kernel_rfl) (fun _ _ _ h => h) (Or.inl ⟨by rfl, ?hya_4⟩) (by assumption) ?resta_4
    case hya_4 =>
      intro w' e0
      go_simp
    try simp only [List.getElem_toArray, List.getElem_cons_succ, List.getElem_cons_zero, Act.put, List.setIfInBounds_toArray, List.set_cons_zero, List.set_cons_succ]
    refine tillK_take (i := 5) (v := undef) rfl (by kernel_rfl) (by kernel_rfl) (by kernel_rfl) (by kernel_rfl) (by kernel_rfl) (by kernel_rfl) (fun _ _ _ h => h) (Or.inr ⟨by rfl, rfl⟩) (by assumption) ?resta_5
    try simp only [List.getElem_toArray, List.getElem_cons_succ, List.getElem_cons_zero, Act.put, List.setIfInBounds_toArray, List.set_cons_zero, List.set_cons_succ]
    refine tillK_take (i := 6) (v := undef) rfl (by kernel_rfl) (by kernel_rfl) (by kernel_rfl) (by kernel_rfl) (by kernel_rfl) (by kernel_rfl) (fun _ _ _ h => h) (Or.inr ⟨by rfl, rfl⟩) (by assumption) ?resta_6
    try simp only [List.getElem_toArray, List.getElem_cons_succ, List.getElem_cons_zero, Act.put, List.setIfInBounds_toArray, List.set_cons_zero, List.set_cons_succ]
    refine tillK_take (i := 7) (v := undef) rfl (by kernel_rfl) (by kernel_rfl) (by kernel_rfl) (by kernel_rfl) (by kernel_rfl) (by kernel_rfl) (fun _ _ _ h => h) (Or.inr ⟨by rfl, rfl⟩) (by assumption) ?resta_7
    try simp only [List.getElem_toArray, List.getElem_cons_succ, List.getElem_cons_zero, Act.put, List.setIfInBounds_toArray, List.set_cons_zero, List.set_cons_succ]
    refine tillK_take (i := 8) (v := undef) rfl (by kernel_rfl) (by kernel_rfl) (by kernel_rfl) (by kernel_rfl) (by kernel_rfl) (by kernel_rfl) (fun _ _ _ h => h) (Or.inr ⟨by rfl, rfl⟩) (by assumption) ?resta_8
    try simp only [List.getElem_toArray, List.getElem_cons_succ, List.getElem_cons_zero, Act.put, List.setIfInBounds_toArray, List.set_cons_zero, List.set_cons_succ]
    refine tillK_take (i := 9) (v := undef) rfl (by kernel_rfl) (by kernel_rfl) (by kernel_rfl) (by kernel_rfl) (by kernel_rfl) (by kernel_rfl) (fun _ _ _ h => h) (Or.inr ⟨by rfl, rfl⟩) (by assumption) ?resta_9
    try simp only [List.getElem_toArray, List.getElem_cons_succ, List.getElem_cons_zero, Act.put, List.setIfInBounds_toArray, List.set_cons_zero, List.set_cons_succ]
    refine tillK_take (i := 10) (v := undef) rfl (by kernel_rfl) (by kernel_rfl) (by kernel_rfl) (by kernel_rfl) (by kernel_rfl) (by kernel_rfl) (fun _ _ _ h => h) (Or.inr ⟨by rfl, rfl⟩) (by assumption) ?resta_10
    try simp only [List.getElem_toArray, List.getElem_cons_succ, List.getElem_cons_zero, Act.put, List.setIfInBounds_toArray, List.set_cons_zero, List.set_cons_succ]
    refine tillK_take (i := 11) (v := undef) rfl (by kernel_rfl) (by kernel_rfl) (by kernel_rfl) (by kernel_rfl) (by kernel_rfl) (by kernel_rfl) (fun _ _ _ h => h) (Or.inr ⟨by rfl, rfl⟩) (by assumption) ?resta_11
    try simp only [List.getElem_toArray, List.getElem_cons_succ, List.getElem_cons_zero, Act.put, List.setIfInBounds_toArray, List.set_cons_zero, List.set_cons_succ]
    refine tillK_take (i := 12) (v := .bool false) rfl (by kernel_rfl) (by kernel_rfl) (by kernel_rfl) (by kernel_rfl) (by kernel_rfl) (by kernel_rfl) (fun _ _ _ h => h) (Or.inl ⟨by rfl, ?hya_12⟩) (by assumption) ?resta_12
    case hya_12 =>
      intro w' e0
      go_simp
    try simp only [List.getElem_toArray, List.getElem_cons_succ, List.getElem_cons_zero, Act.put, List.setIfInBounds_toArray, List.set_cons_zero, List.set_cons_succ]
    refine tillK_take (i := 13) (v := .bool false) rfl (by kernel_rfl) (by kernel_rfl) (by kernel_rfl) (by kernel_rfl) (by kernel_rfl) (by kernel_rfl) (fun _ _ _ h => h) (Or.inl ⟨by rfl, ?hya_13⟩) (by assumption) ?resta_13
    case hya_13 =>
      intro w' e0
      go_simp
    try simp only [List.getElem_toArray, List.getElem_cons_succ, List.getElem_cons_zero, Act.put, List.setIfInBounds_toArray, List.set_cons_zero, List.set_cons_succ]
    refine tillK_take (i := 14) (v := undef) rfl (by kernel_rfl) (by kernel_rfl) (by kernel_rfl) (by kernel_rfl) (by kernel_rfl) (by kernel_rfl) (fun _ _ _ h => h) (Or.inr ⟨by rfl, rfl⟩) (by assumption) ?resta_14
    try simp only [List.getElem_toArray, List.getElem_cons_succ, List.getElem_cons_zero, Act.put, List.setIfInBounds_toArray, List.set_cons_zero, List.set_cons_succ]
    refine tillK_take (i := 15) (v := undef) rfl (by kernel_rfl) (by kernel_rfl) (by kernel_rfl) (by kernel_rfl) (by kernel_rfl) (by kernel_rfl) (fun _ _ _ h => h) (Or.inr ⟨by rfl, rfl⟩) (by assumption) ?resta_15
    try simp only [List.getElem_toArray, List.getElem_cons_succ, List.getElem_cons_zero, Act.put, List.setIfInBounds_toArray, List.set_cons_zero, List.set_cons_succ]
    refine tillK_take (i := 16) (v := undef) rfl (by kernel_rfl) (by kernel_rfl) (by kernel_rfl) (by kernel_rfl) (by kernel_rfl) (by kernel_rfl) (fun _ _ _ h => h) (Or.inr ⟨by rfl, rfl⟩) (by assumption) ?resta_16
    try simp only [List.getElem_toArray, List.getElem_cons_succ, List.getElem_cons_zero, Act.put, List.setIfInBounds_toArray, List.set_cons_zero, List.set_cons_succ]
    refine tillK_take (i := 17) (v := undef) rfl (by kernel_rfl) (by kernel_rfl) (by kernel_rfl) (by kernel_rfl) (by kernel_rfl) (by kernel_rfl) (fun _ _ _ h => h) (Or.inr ⟨by rfl, rfl⟩) (by assumption) ?resta_17
    try simp only [List.getElem_toArray, List.getElem_cons_succ, List.getElem_cons_zero, Act.put, List.setIfInBounds_toArray, List.set_cons_zero, List.set_cons_succ]
    refine tillK_take (i := 18) (v := undef) rfl (by kernel_rfl) (by kernel_rfl) (by kernel_rfl) (by kernel_rfl) (by kernel_rfl) (by kernel_rfl) (fun _ _ _ h => h) (Or.inr ⟨by rfl, rfl⟩) (by assumption) ?resta_18
    try simp only [List.getElem_toArray, List.getElem_cons_succ, List.getElem_cons_zero, Act.put, List.setIfInBounds_toArray, List.set_cons_zero, List.set_cons_succ]
    refine tillK_step (i := 19) (by kernel_rfl) rfl (by rfl) ?_
    intro Ka_19 hKa_19
    have HKa_19 := Lib.hid hKa_19
    clear hKa_19
    go_wp2_with fail
    refine HKa_19.out.out _ _ (fun _ => S0) ?_
    refine tillK_step (i := 20) (by kernel_rfl) rfl (by rfl) ?_
    intro Ka_20 hKa_20
    have HKa_20 := Lib.hid hKa_20
    clear hKa_20
    go_wp2_with fail
    refine HKa_20.out.out _ _ (fun h => by simp at h) ?_
    refine tillK_done (by kernel_rfl) ?_
    go_wp2_with fail
    go_ret
    exact ⟨by first | rfl | simp, below_drewN HB.out _⟩
  have g : decide ((n : Int) ≤ 64) = true := decide_eq_true (by omega)
  have g2 : decide (n ≤ 64) = true := decide_eq_true (by omega)
  have HV2 := Lib.hid (show v = (dstC [] L && L.all dlOk) from by rw [HV.out, decide_eq_true (by omega)]; rfl)
  go_enter Try.func12, Try.ntmps12
  go_upto_region 2 with (fail)
  rw [HW.out, HX1.out]
  have S0 : W.drew.cell? ⟨x1, 0, none⟩ = some (.slice A.a n A.c) := c0
  have HDR := Lib.hid (show Below W.heap.size W W.drew from (Below.refl _ _).drew)
  refine tillK_begin (S := fun w' => w'.cell? ⟨x1, 0, none⟩ = some (.slice A.a n A.c)) (k := 20) (by kernel_rfl) ?_
  refine tillK_take (i := 0) (v := .pointer (some ⟨x1, 0, none⟩)) rfl (by kernel_rfl) (by kernel_rfl) (by kernel_rfl) (by kernel_rfl) (by kernel_rfl) (by kernel_rfl) (fun _ _ _ h => h) (Or.inl ⟨by rfl, ?hyb_0⟩) (by assumption) ?restb_0
  case hyb_0 =>
    intro w' e0
    go_simp
  try simp only [List.getElem_toArray, List.getElem_cons_zero, Act.put, List.setIfInBounds_toArray, List.set_cons_zero, List.set_cons_succ]
  refine tillK_take (i := 1) (v := .slice A.a n A.c) rfl (by kernel_rfl) (by kernel_rfl) (by kernel_rfl) (by kernel_rfl) (by kernel_rfl) (by kernel_rfl) (fun _ _ _ h => h) (Or.inl ⟨by rfl, ?hyb_1⟩) (by assumption) ?restb_1
  case hyb_1 =>
    intro w' e0
    go_simp
  try simp only [List.getElem_toArray, List.getElem_cons_succ, List.getElem_cons_zero, Act.put, List.setIfInBounds_toArray, List.set_cons_zero, List.set_cons_succ]
  refine tillK_take (i := 2) (v := .int .i64 n) rfl (by kernel_rfl) (by kernel_rfl) (by kernel_rfl) (by kernel_rfl) (by kernel_rfl) (by kernel_rfl) (fun _ _ _ h => h) (Or.inl ⟨by rfl, ?hyb_2⟩) (by assumption) ?restb_2
  case hyb_2 =>
    intro w' e0
    go_simp
  try simp only [List.getElem_toArray, List.getElem_cons_succ, List.getElem_cons_zero, Act.put, List.setIfInBounds_toArray, List.set_cons_zero, List.set_cons_succ]
  refine tillK_take (i := 3) (v := .bool true) rfl (by kernel_rfl) (by kernel_rfl) (by kernel_rfl) (by kernel_rfl) (by kernel_rfl) (by kernel_rfl) (fun _ _ _ h => h) (Or.inl ⟨by rfl, ?hyb_3⟩) (by assumption) ?restb_3
  case hyb_3 =>
    intro w' e0
    go_simp
  try simp only [List.getElem_toArray, List.getElem_cons_succ, List.getElem_cons_zero, Act.put, List.setIfInBounds_toArray, List.set_cons_zero, List.set_cons_succ]
  refine tillK_take (i := 4) (v := .bool true) rfl (by kernel_rfl) (by kernel_rfl) (by kernel_rfl) (by kernel_rfl) (by kernel_rfl) (by kernel_rfl) (fun _ _ _ h => h) (Or.inl ⟨by rfl, ?hyb_4⟩) (by assumption) ?restb_4
  case hyb_4 =>
    intro w' e0
    go_simp
  try simp only [List.getElem_toArray, List.getElem_cons_succ, List.getElem_cons_zero, Act.put, List.setIfInBounds_toArray, List.set_cons_zero, List.set_cons_succ]
  refine tillK_take (i := 8) (v := .pointer (some ⟨x1, 0, none⟩)) rfl (by kernel_rfl) (by kernel_rfl) (by kernel_rfl) (by kernel_rfl) (by kernel_rfl) (by kernel_rfl) (fun _ _ _ h => h) (Or.inl ⟨by rfl, ?hyb_8⟩) (by assumption) ?restb_8
  case hyb_8 =>
    intro w' e0
    go_simp
  try simp only [List.getElem_toArray, List.getElem_cons_succ, List.getElem_cons_zero, Act.put, List.setIfInBounds_toArray, List.set_cons_zero, List.set_cons_succ]
  refine tillK_take (i := 9) (v := .slice A.a n A.c) rfl (by kernel_rfl) (by kernel_rfl) (by kernel_rfl) (by kernel_rfl) (by kernel_rfl) (by kernel_rfl) (fun _ _ _ h => h) (Or.inl ⟨by rfl, ?hyb_9⟩) (by assumption) ?restb_9
  case hyb_9 =>
    intro w' e0
    go_simp
  try simp only [List.getElem_toArray, List.getElem_cons_succ, List.getElem_cons_zero, Act.put, List.setIfInBounds_toArray, List.set_cons_zero, List.set_cons_succ]
  refine tillK_take (i := 10) (v := .int .i64 n) rfl (by kernel_rfl) (by kernel_rfl) (by kernel_rfl) (by kernel_rfl) (by kernel_rfl) (by kernel_rfl) (fun _ _ _ h => h) (Or.inl ⟨by rfl, ?hyb_10⟩) (by assumption) ?restb_10
  case hyb_10 =>
    intro w' e0
    go_simp
  try simp only [List.getElem_toArray, List.getElem_cons_succ, List.getElem_cons_zero, Act.put, List.setIfInBounds_toArray, List.set_cons_zero, List.set_cons_succ]
  refine tillK_step (i := 5) (by kernel_rfl) rfl (by rfl) ?_
  intro Kb_5 hKb_5
  have HKb_5 := Lib.hid hKb_5
  clear hKb_5
  go_wp2_with fail
  refine HKb_5.out.out _ _ (fun _ => S0) ?_
  refine tillK_step (i := 6) (by kernel_rfl) rfl (by rfl) ?_
  intro Kb_6 hKb_6
  have HKb_6 := Lib.hid hKb_6
  clear hKb_6
  go_wp2_with fail
  refine (HPL.out _ HDR.out).mono ?_
  rintro e w2 ⟨b, m, D, rfl, hT, hD, hct, _, hb2⟩
  have hB2 := HDR.out.trans (hb2.mono HDR.out.size)
  have HB2 := Lib.hid hB2
  have S2 : w2.cell? ⟨x1, 0, none⟩ = some (.slice A.a n A.c) := HCC.out w2 hB2
  have hlen := fun ty => hT.len Try.underlying51 ty
  obtain ⟨q, hq⟩ : ∃ q, Maps.size D = q := ⟨_, rfl⟩
  rw [hq] at hlen hct
  have HCT := Lib.hid hct
  clear hT hD hct hb2 hB2 hq
  dsimp only
  refine HKb_6.out.out _ _ (fun _ => S2) ?_
  refine tillK_step (i := 7) (by kernel_rfl) rfl (by rfl) ?_
  intro Kb_7 hKb_7
  have HKb_7 := Lib.hid hKb_7
  clear hKb_7
  go_wp2_with fail
  refine HKb_7.out.out _ _ (fun _ => S2) ?_
  have hqi : ((q : Int) == (n : Int)) = decide (q = n) := by rw [Bool.eq_iff_iff]; simp; omega
  obtain ⟨qb, hqb⟩ : ∃ b, decide (q = n) = b := ⟨_, rfl⟩
  rw [hqb] at hqi
  have HQB := Lib.hid hqb
  clear hlen hqb
  refine tillK_step (i := 11) (by kernel_rfl) rfl (by rfl) ?_
  intro Kb_11 hKb_11
  have HKb_11 := Lib.hid hKb_11
  clear hKb_11
  go_wp2_with fail
  refine HKb_11.out.out _ _ (fun _ => S2) ?_
  refine tillK_step (i := 12) (by kernel_rfl) rfl (by rfl) ?_
  intro Kb_12 hKb_12
  have HKb_12 := Lib.hid hKb_12
  clear hKb_12
  go_wp2_with fail
  refine HKb_12.out.out _ _ (fun _ => S2) ?_
  refine tillK_step (i := 13) (by kernel_rfl) rfl (by rfl) ?_
  intro Kb_13 hKb_13
  have HKb_13 := Lib.hid hKb_13
  clear hKb_13
  go_wp2_with fail
  refine HKb_13.out.out _ _ (fun _ => S2) ?_
  cases qb
  case false =>
    have hqn : ¬ q = n := of_decide_eq_false HQB.out
    obtain rfl : v = false := by
      have h1 := HCT.out.2
      have h2 : dstC [] L = false := Bool.eq_false_iff.2 fun e => hqn ((h1.2 e).trans HN.out)
      rw [HV2.out, h2]; rfl
    clear hqn
    refine tillK_take (i := 14) (v := undef) rfl (by kernel_rfl) (by kernel_rfl) (by kernel_rfl) (by kernel_rfl) (by kernel_rfl) (by kernel_rfl) (fun _ _ _ h => h) (Or.inr ⟨by rfl, rfl⟩) (by assumption) ?restc_14
    try simp only [List.getElem_toArray, List.getElem_cons_succ, List.getElem_cons_zero, Act.put, List.setIfInBounds_toArray, List.set_cons_zero, List.set_cons_succ]
    refine tillK_take (i := 15) (v := undef) rfl (by kernel_rfl) (by kernel_rfl) (by kernel_rfl) (by kernel_rfl) (by kernel_rfl) (by kernel_rfl) (fun _ _ _ h => h) (Or.inr ⟨by rfl, rfl⟩) (by assumption) ?restc_15
    try simp only [List.getElem_toArray, List.getElem_cons_succ, List.getElem_cons_zero, Act.put, List.setIfInBounds_toArray, List.set_cons_zero, List.set_cons_succ]
    refine tillK_take (i := 16) (v := undef) rfl (by kernel_rfl) (by kernel_rfl) (by kernel_rfl) (by kernel_rfl) (by kernel_rfl) (by kernel_rfl) (fun _ _ _ h => h) (Or.inr ⟨by rfl, rfl⟩) (by assumption) ?restc_16
    try simp only [List.getElem_toArray, List.getElem_cons_succ, List.getElem_cons_zero, Act.put, List.setIfInBounds_toArray, List.set_cons_zero, List.set_cons_succ]
    refine tillK_take (i := 17) (v := undef) rfl (by kernel_rfl) (by kernel_rfl) (by kernel_rfl) (by kernel_rfl) (by kernel_rfl) (by kernel_rfl) (fun _ _ _ h => h) (Or.inr ⟨by rfl, rfl⟩) (by assumption) ?restc_17
    try simp only [List.getElem_toArray, List.getElem_cons_succ, List.getElem_cons_zero, Act.put, List.setIfInBounds_toArray, List.set_cons_zero, List.set_cons_succ]
    refine tillK_take (i := 18) (v := undef) rfl (by kernel_rfl) (by kernel_rfl) (by kernel_rfl) (by kernel_rfl) (by kernel_rfl) (by kernel_rfl) (fun _ _ _ h => h) (Or.inr ⟨by rfl, rfl⟩) (by assumption) ?restc_18
    try simp only [List.getElem_toArray, List.getElem_cons_succ, List.getElem_cons_zero, Act.put, List.setIfInBounds_toArray, List.set_cons_zero, List.set_cons_succ]
    refine tillK_step (i := 19) (by kernel_rfl) rfl (by rfl) ?_
    intro Kc_19 hKc_19
    have HKc_19 := Lib.hid hKc_19
    clear hKc_19
    go_wp2_with fail
    refine HKc_19.out.out _ _ (fun _ => S2) ?_
    refine tillK_step (i := 20) (by kernel_rfl) rfl (by rfl) ?_
    intro Kc_20 hKc_20
    have HKc_20 := Lib.hid hKc_20
    clear hKc_20
    go_wp2_with fail
    refine HKc_20.out.out _ _ (fun h => by simp at h) ?_
    refine tillK_done (by kernel_rfl) ?_
    go_wp2_with fail
    go_ret
    exact ⟨by first | rfl | simp, HB.out.trans (HB2.out.mono HB.out.size)⟩
  have hqn : q = n := of_decide_eq_true HQB.out
  have HV3 := Lib.hid (show v = L.all dlOk from by
    have h1 := HCT.out.2
    rw [HV2.out, h1.1 (hqn.trans HN.out.symm)]; rfl)
  clear hqn
  refine tillK_take (i := 14) (v := .pointer (some ⟨x1, 0, none⟩)) rfl (by kernel_rfl) (by kernel_rfl) (by kernel_rfl) (by kernel_rfl) (by kernel_rfl) (by kernel_rfl) (fun _ _ _ h => h) (Or.inl ⟨by rfl, ?hyd_14⟩) (by assumption) ?restd_14
  case hyd_14 =>
    intro w' e0
    go_simp
  try simp only [List.getElem_toArray, List.getElem_cons_succ, List.getElem_cons_zero, Act.put, List.setIfInBounds_toArray, List.set_cons_zero, List.set_cons_succ]
  refine tillK_take (i := 15) (v := .slice A.a n A.c) rfl (by kernel_rfl) (by kernel_rfl) (by kernel_rfl) (by kernel_rfl) (by kernel_rfl) (by kernel_rfl) (fun _ _ _ h => h) (Or.inl ⟨by rfl, ?hyd_15⟩) (by assumption) ?restd_15
  case hyd_15 =>
    intro w' e0
    go_simp
  try simp only [List.getElem_toArray, List.getElem_cons_succ, List.getElem_cons_zero, Act.put, List.setIfInBounds_toArray, List.set_cons_zero, List.set_cons_succ]
  refine tillK_take (i := 16) (v := .func (.func 20) #[] #[]) rfl (by kernel_rfl) (by kernel_rfl) (by kernel_rfl) (by kernel_rfl) (by kernel_rfl) (by kernel_rfl) (fun _ _ _ h => h) (Or.inl ⟨by rfl, ?hyd_16⟩) (by assumption) ?restd_16
  case hyd_16 =>
    intro w' e0
    go_simp
  try simp only [List.getElem_toArray, List.getElem_cons_succ, List.getElem_cons_zero, Act.put, List.setIfInBounds_toArray, List.set_cons_zero, List.set_cons_succ]
  refine tillK_step (i := 17) (by kernel_rfl) rfl (by rfl) ?_
  intro Kd_17 hKd_17
  have HKd_17 := Lib.hid hKd_17
  clear hKd_17
  go_wp2_with fail
  refine (HCF.out _ HB2.out).mono ?_
  rintro e w3 ⟨rfl, hb3⟩
  rw [← HV3.out]
  have hB3 := HB2.out.trans (hb3.mono HB2.out.size)
  have HB3 := Lib.hid hB3
  have S3 : w3.cell? ⟨x1, 0, none⟩ = some (.slice A.a n A.c) := HCC.out w3 hB3
  clear hb3 hB3
  dsimp only
  refine HKd_17.out.out _ _ (fun _ => S3) ?_
  refine tillK_step (i := 18) (by kernel_rfl) rfl (by rfl) ?_
  intro Kd_18 hKd_18
  have HKd_18 := Lib.hid hKd_18
  clear hKd_18
  go_wp2_with fail
  refine HKd_18.out.out _ _ (fun _ => S3) ?_
  refine tillK_step (i := 19) (by kernel_rfl) rfl (by rfl) ?_
  intro Kd_19 hKd_19
  have HKd_19 := Lib.hid hKd_19
  clear hKd_19
  go_wp2_with fail
  refine HKd_19.out.out _ _ (fun _ => S3) ?_
  refine tillK_step (i := 20) (by kernel_rfl) rfl (by rfl) ?_
  intro Kd_20 hKd_20
  have HKd_20 := Lib.hid hKd_20
  clear hKd_20
  go_wp2_with fail
  refine HKd_20.out.out _ _ (fun h => by simp at h) ?_
  refine tillK_done (by kernel_rfl) ?_
  go_wp2_with fail
  go_ret
  exact ⟨by first | rfl | simp, HB.out.trans (HB3.out.mono HB.out.size)⟩
end Go.Proofs.Ytohhkacnjhgamaa
