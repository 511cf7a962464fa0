/- Equal of numbers, EqualFunc of deals; Same: the program's. -/
import Derived.Test.YtohhkacnjhgamaaPc
import Derived.Test.YtohhkacnjhgamaaOh
import Derived.BigQuiet
namespace Go.Proofs.Ytohhkacnjhgamaa
open Go.RowKit

set_option maxRecDepth 100000 in
set_option maxHeartbeats 4000000 in
theorem equalN_any (n c m d : Nat) (a b : Option Addr) (P Q : List Nat) (hn : P.length = n) (hl : n ≤ 140737488351232) (hm : Q.length = m) (hl2 : m ≤ 140737488351232) (w : World) (hP : Nus w a P) (hQ : Nus w b Q) :
    Calls Try.prog 26 #[.slice a n c, .slice b m d] w fun e w' => e = .returned (.bool (decide (P = Q))) ∧ Below w.heap.size w w' := by
  rw [← samN_eq]
  have HN := Lib.hid hn
  have HM := Lib.hid hm
  have HP := Lib.hid hP
  have HQ := Lib.hid hQ
  by_cases hnm : n = m
  case neg =>
    have HE := Lib.hid (show samN P Q = false from by rw [samN_eq, decide_eq_false]; intro e; rw [e] at hn; omega)
    have g : ((n : Int) == (m : Int)) = false := by simp; omega
    have gn : ((n : Int) != (m : Int)) = true := by simp; omega
    clear hn hm hP hQ hnm
    go_enter Try.func26, Try.ntmps26
    go_wp2_with fail
    go_ret
    exact ⟨by rw [HE.out]; first | rfl | simp, Below.refl _ _⟩
  subst hnm
  obtain ⟨r, hr⟩ : ∃ r, samN P Q = r := ⟨_, rfl⟩
  rw [hr]
  have HR := Lib.hid (show samN (P.drop 0) (Q.drop 0) = r from hr)
  clear hn hm hP hQ hr
  go_enter Try.func26, Try.ntmps26
  go_wp2_with fail
  go_loopw [13] (fun u wr => ∃ k : Nat, k ≤ n ∧ u = .int .i64 k ∧ samN (P.drop k) (Q.drop k) = r ∧ Below w.heap.size w wr) (fun u _ => n - (intOf u).toNat)
  case atStart => exact ⟨0, Nat.zero_le _, rfl, HR.out, Below.refl _ _⟩
  case round =>
    obtain ⟨k, hk, rfl, hf, hB⟩ := hrel
    have HF := Lib.hid hf
    have HB := Lib.hid hB
    clear hf
    by_cases hlt : k < n
    · obtain ⟨x, hx⟩ : ∃ x, P[k]? = some x := ⟨_, List.getElem?_eq_getElem (by rw [HN.out]; exact hlt)⟩
      obtain ⟨y, hy⟩ : ∃ y, Q[k]? = some y := ⟨_, List.getElem?_eq_getElem (by rw [HM.out]; exact hlt)⟩
      have i0 : (0 : Int) ≤ (k : Int) := by omega
      have i1 : (k : Int) < (n : Int) := by omega
      have HA := Lib.hid (HF.out.symm.trans (samN_at hx hy))
      obtain ⟨b1, off, rfl, _, p0⟩ := Nus.cell (HP.out.later hB) hx
      obtain ⟨b2, off2, rfl, _, q0⟩ := Nus.cell (HQ.out.later hB) hy
      clear hx hy hB
      by_cases h1 : x = y
      · subst h1
        have HT := Lib.hid (show samN (P.drop (k + 1)) (Q.drop (k + 1)) = r by rw [HA.out]; simp)
        go_wp2_with fail
        go_quiet (fail)
        go_wp2_with fail
        go_roundw
        case rel => exact ⟨k + 1, by omega, by go_num, HT.out, below_drewN HB.out _⟩
        case measure => simp [intOf]; omega
      · obtain rfl : r = false := by rw [HA.out]; simp [h1]
        have g1 : ((x : Int) == (y : Int)) = false := by simp; omega
        have g2 : ((x : Int) != (y : Int)) = true := by simp; omega
        clear h1
        go_wp2_with fail
        go_quiet (fail)
        go_wp2_with fail
        go_ret
        exact ⟨by first | rfl | simp, below_drewN HB.out _⟩
    · have i1 : ¬ (k : Int) < (n : Int) := by omega
      obtain rfl : r = true := by rw [← HF.out, List.drop_eq_nil_of_le (by rw [HN.out]; omega), List.drop_eq_nil_of_le (by rw [HM.out]; omega)]; rfl
      go_wp2_with fail
      go_ret
      exact ⟨by first | rfl | simp, HB.out⟩
set_option maxRecDepth 100000 in
set_option maxHeartbeats 4000000 in
theorem sameCl_any (x y : DlM) (hl : x.x.parts.length ≤ 140737488351232) (hl2 : y.x.parts.length ≤ 140737488351232) (w : World) (hP : Nus w x.a x.x.parts) (hQ : Nus w y.a y.x.parts) :
    Calls Try.prog 25 #[dlV x, dlV y] w fun e w' => e = .returned (.bool (samD x.x y.x)) ∧ Below w.heap.size w w' := by
  obtain ⟨⟨⟨xa, xi⟩, xp, xs⟩, a, c⟩ := x
  obtain ⟨⟨⟨ya, yi⟩, yp, ys⟩, b, d⟩ := y
  simp only at hl hl2 hP hQ
  obtain ⟨W, hW⟩ : ∃ W, (w.alloc (.cells #[.int .u64 (xa : Nat), .int .u64 (xi : Nat), .slice a xp.length c, .int .i64 xs] 31)).alloc (.cells #[.int .u64 (ya : Nat), .int .u64 (yi : Nat), .slice b yp.length d, .int .i64 ys] 31) = W := ⟨_, rfl⟩
  obtain ⟨x1, hx1⟩ : ∃ x, w.heap.size = x := ⟨_, rfl⟩
  have hX : Below w.heap.size w W ∧ DB W x1 ⟨⟨⟨xa, xi⟩, xp, xs⟩, a, c⟩ ∧ DB W (x1 + 1) ⟨⟨⟨ya, yi⟩, yp, ys⟩, b, d⟩ := by
    rw [← hW, ← hx1]
    exact ⟨by go_grown, (DB.new rfl ⟨⟨⟨xa, xi⟩, xp, xs⟩, a, c⟩ _).later ((Below.refl _ _).alloc (Nat.le_refl _) _), DB.new (by simp) ⟨⟨⟨ya, yi⟩, yp, ys⟩, b, d⟩ _⟩
  obtain ⟨hB, hD, hE⟩ := hX
  have HEQ := Lib.hid (equalN_any xp.length c yp.length d a b xp yp rfl hl rfl hl2 W (hP.later hB) (hQ.later hB))
  have HB := Lib.hid (show Below x1 w W from hx1 ▸ hB)
  have HW := Lib.hid hW
  have HX1 := Lib.hid hx1
  obtain ⟨_, c0, c1, c2, c3⟩ := hD
  obtain ⟨_, d0, d1, d2, d3⟩ := hE
  simp only at c0 c1 c2 c3 d0 d1 d2 d3
  clear hP hQ hB hW hx1 hl hl2
  show Calls Try.prog 25 #[.agg #[.int .u64 (xa : Nat), .int .u64 (xi : Nat), .slice a xp.length c, .int .i64 xs], .agg #[.int .u64 (ya : Nat), .int .u64 (yi : Nat), .slice b yp.length d, .int .i64 ys]] w _
  obtain ⟨v, hv⟩ : ∃ v, samD ⟨⟨xa, xi⟩, xp, xs⟩ ⟨⟨ya, yi⟩, yp, ys⟩ = v := ⟨_, rfl⟩
  rw [hv]
  have HV := Lib.hid hv
  clear hv
  by_cases h1 : xa = ya
  case neg =>
    obtain rfl : v = false := by rw [← HV.out]; simp [samD, h1]
    have g1 : ((xa : Int) == (ya : Int)) = false := by simp; omega
    go_enter Try.func25, Try.ntmps25
    go_wp2_with fail
    rw [HW.out, HX1.out]
    go_wp2_with fail
    go_ret
    exact ⟨by first | rfl | simp, HB.out⟩
  subst h1
  by_cases h1 : xi = yi
  case neg =>
    obtain rfl : v = false := by rw [← HV.out]; simp [samD, h1]
    have g1 : ((xi : Int) == (yi : Int)) = false := by simp; omega
    go_enter Try.func25, Try.ntmps25
    go_wp2_with fail
    rw [HW.out, HX1.out]
    go_wp2_with fail
    go_ret
    exact ⟨by first | rfl | simp, HB.out⟩
  subst h1
  by_cases h1 : xs = ys
  case neg =>
    obtain rfl : v = false := by rw [← HV.out]; simp [samD, h1]
    have g1 : (xs == ys) = false := by simpa using h1
    go_enter Try.func25, Try.ntmps25
    go_wp2_with fail
    rw [HW.out, HX1.out]
    go_wp2_with fail
    go_ret
    exact ⟨by first | rfl | simp, HB.out⟩
  subst h1
  obtain rfl : v = decide (xp = yp) := by rw [← HV.out]; simp [samD]
  go_enter Try.func25, Try.ntmps25
  go_wp2_with fail
  rw [HW.out, HX1.out]
  go_wp2_with fail
  refine HEQ.out.mono ?_
  rintro e w2 ⟨rfl, hb2⟩
  obtain ⟨q, hq⟩ : ∃ q, decide (xp = yp) = q := ⟨_, rfl⟩
  rw [hq]
  have HB2 := Lib.hid (HB.out.trans (hb2.mono (by have := HB.out.size; have := HX1.out; omega)))
  have HQ := Lib.hid hq
  clear hb2 hq c0 c1 c2 c3 d0 d1 d2 d3
  go_wp2_with fail
  go_ret
  exact ⟨by first | rfl | (rw [HQ.out]; rfl) | simp [HQ.out], by rw [HX1.out]; exact HB2.out⟩
set_option maxRecDepth 100000 in
set_option maxHeartbeats 4000000 in
theorem equalF_any (n c m d : Nat) (a b : Option Addr) (P Q : List DlM) (hn : P.length = n) (hl : n ≤ 140737488351232) (hm : Q.length = m) (hl2 : m ≤ 140737488351232) (hpl : ∀ x ∈ P, x.x.parts.length ≤ 140737488351232) (hql : ∀ x ∈ Q, x.x.parts.length ≤ 140737488351232) (w : World) (hP : Rw 4 dlC w a P) (hPP : ∀ x ∈ P, Nus w x.a x.x.parts) (hQ : Rw 4 dlC w b Q) (hQP : ∀ x ∈ Q, Nus w x.a x.x.parts) :
    Calls Try.prog 24 #[.slice a n c, .slice b m d, .func (.func 25) #[] #[]] w fun e w' => e = .returned (.bool (samC (P.map fun y => y.x) (Q.map fun y => y.x))) ∧ Below w.heap.size w w' := by
  have HN := Lib.hid hn
  have HM := Lib.hid hm
  have HP := Lib.hid hP
  have HQ := Lib.hid hQ
  have HCL := Lib.hid (fun (x : DlM) (hx : x ∈ P) (y : DlM) (hy : y ∈ Q) (w' : World) (hb : Below w.heap.size w w') => sameCl_any x y (hpl x hx) (hql y hy) w' ((hPP x hx).later hb) ((hQP y hy).later hb))
  obtain ⟨PX, hPX⟩ : ∃ L, P.map (fun y => y.x) = L := ⟨_, rfl⟩
  obtain ⟨QX, hQX⟩ : ∃ L, Q.map (fun y => y.x) = L := ⟨_, rfl⟩
  rw [hPX, hQX]
  have hnX : PX.length = n := by rw [← hPX, List.length_map, hn]
  have hmX : QX.length = m := by rw [← hQX, List.length_map, hm]
  have HNX := Lib.hid hnX
  have HMX := Lib.hid hmX
  have HPX := Lib.hid (fun (k : Nat) (x : DlM) (h : P[k]? = some x) => (show PX[k]? = some x.x by rw [← hPX, List.getElem?_map, h]; rfl))
  have HQX := Lib.hid (fun (k : Nat) (x : DlM) (h : Q[k]? = some x) => (show QX[k]? = some x.x by rw [← hQX, List.getElem?_map, h]; rfl))
  have hfun : ∀ (u v : Value) (w : World), (callFunc 25 #[u, v]).run Try.prog w = .ok (.enter 25 #[u, v]) w := fun u v w => by kernel_rfl
  by_cases hnm : n = m
  case neg =>
    have HE := Lib.hid (samC_len (P := PX) (Q := QX) (by rw [hnX, hmX]; exact hnm))
    have g : ((n : Int) == (m : Int)) = false := by simp; omega
    have gn : ((n : Int) != (m : Int)) = true := by simp; omega
    clear hn hm hP hQ hnm hPP hQP hpl hql hPX hQX hnX hmX
    go_enter Try.func24, Try.ntmps24
    go_wp2_with fail
    go_ret
    exact ⟨by rw [HE.out]; first | rfl | simp, Below.refl _ _⟩
  subst hnm
  obtain ⟨r, hr⟩ : ∃ r, samC PX QX = r := ⟨_, rfl⟩
  rw [hr]
  have HR := Lib.hid (show samC (PX.drop 0) (QX.drop 0) = r from hr)
  clear hn hm hP hQ hr hPP hQP hpl hql hPX hQX hnX hmX
  go_enter Try.func24, Try.ntmps24
  go_wp2_with fail
  go_loopw [17] (fun u wr => ∃ k : Nat, k ≤ n ∧ u = .int .i64 k ∧ samC (PX.drop k) (QX.drop k) = r ∧ Below w.heap.size w wr) (fun u _ => n - (intOf u).toNat)
  case atStart => exact ⟨0, Nat.zero_le _, rfl, HR.out, Below.refl _ _⟩
  case round =>
    obtain ⟨k, hk, rfl, hf, hB⟩ := hrel
    have HF := Lib.hid hf
    have HB := Lib.hid hB
    clear hf
    by_cases hlt : k < n
    case neg =>
      have i1 : ¬ (k : Int) < (n : Int) := by omega
      obtain rfl : r = true := by rw [← HF.out, List.drop_eq_nil_of_le (by rw [HNX.out]; omega), List.drop_eq_nil_of_le (by rw [HMX.out]; omega)]; rfl
      go_wp2_with fail
      go_ret
      exact ⟨by first | rfl | simp, HB.out⟩
    obtain ⟨x, hx⟩ : ∃ x, P[k]? = some x := ⟨_, List.getElem?_eq_getElem (by rw [HN.out]; exact hlt)⟩
    obtain ⟨y, hy⟩ : ∃ y, Q[k]? = some y := ⟨_, List.getElem?_eq_getElem (by rw [HM.out]; exact hlt)⟩
    have i0 : (0 : Int) ≤ (k : Int) := by omega
    have i1 : (k : Int) < (n : Int) := by omega
    have HA := Lib.hid (HF.out.symm.trans (samC_at (HPX.out k x hx) (HQX.out k y hy)))
    have HC := Lib.hid (HCL.out x (List.mem_of_getElem? hx) y (List.mem_of_getElem? hy))
    obtain ⟨b1, off, rfl, hb1, p0, p1, p2, p3⟩ := Dlm.cells (HP.out.later hB) hx
    obtain ⟨b2, off2, rfl, hb2, q0, q1, q2, q3⟩ := Dlm.cells (HQ.out.later hB) hy
    obtain ⟨⟨⟨xa, xi⟩, xp, xs⟩, xm, xc⟩ := x
    obtain ⟨⟨⟨ya, yi⟩, yp, ys⟩, ym, yc⟩ := y
    simp only at p0 p1 p2 p3 q0 q1 q2 q3
    obtain ⟨W1, hW1⟩ : ∃ V, wr.alloc (.cells #[.int .u64 (xa : Nat), .int .u64 (xi : Nat), .slice xm xp.length xc, .int .i64 xs] 31) = V := ⟨_, rfl⟩
    have B1 : Below wr.heap.size wr W1 := hW1 ▸ (Below.refl _ _).alloc (Nat.le_refl _) _
    have t0 := (B1.cell (p := ⟨b2, off2 + k * 4, none⟩) hb2).trans q0
    have t1 := (B1.cell (p := ⟨b2, off2 + k * 4 + 1, none⟩) hb2).trans q1
    have t2 := (B1.cell (p := ⟨b2, off2 + k * 4 + 2, none⟩) hb2).trans q2
    have t3 := (B1.cell (p := ⟨b2, off2 + k * 4 + 3, none⟩) hb2).trans q3
    have HB1 := Lib.hid (HB.out.trans (B1.mono HB.out.size))
    have HBW := Lib.hid B1
    clear hx hy hB B1 q0 q1 q2 q3
    subst hW1
    have HB2 := Lib.hid (show Below w.heap.size w ((wr.alloc (.cells #[.int .u64 (xa : Nat), .int .u64 (xi : Nat), .slice xm xp.length xc, .int .i64 xs] 31)).alloc (.cells #[.int .u64 (ya : Nat), .int .u64 (yi : Nat), .slice ym yp.length yc, .int .i64 ys] 31)) from HB1.out.alloc (HB1.out.size) _)
    go_wp2_with fail
    refine (HC.out _ HB2.out).mono ?_
    rintro e w2 ⟨rfl, hb3⟩
    have HB3 := Lib.hid (HB2.out.trans (hb3.mono HB2.out.size))
    simp only at HA ⊢
    obtain ⟨q, hq⟩ : ∃ q, samD ⟨⟨xa, xi⟩, xp, xs⟩ ⟨⟨ya, yi⟩, yp, ys⟩ = q := ⟨_, rfl⟩
    rw [hq] at HA ⊢
    clear hb3 hq p0 p1 p2 p3 t0 t1 t2 t3
    cases q
    · obtain rfl : r = false := by rw [HA.out]; rfl
      go_wp2_with fail
      go_ret
      exact ⟨by first | rfl | simp, HB3.out⟩
    · have HT := Lib.hid (show samC (PX.drop (k + 1)) (QX.drop (k + 1)) = r by rw [HA.out]; rfl)
      go_wp2_with fail
      go_roundw
      case rel => exact ⟨k + 1, by omega, by go_num, HT.out, HB3.out⟩
      case measure => simp [intOf]; omega
set_option maxRecDepth 100000 in
set_option maxHeartbeats 4000000 in
theorem pSameC_any (L R : List Dl) (A B : Cad) (hl : L.length ≤ 140737488351232) (hp : ∀ x ∈ L, x.parts.length ≤ 140737488351232) (hr : R.length ≤ 140737488351232) (hq : ∀ x ∈ R, x.parts.length ≤ 140737488351232) (w : World) (hM : CoM w L A) (hR : CoM w R B) :
    Calls Try.prog 14 #[coV L A, coV R B] w fun e w' => e = .returned (.bool (samC L R)) ∧ Below w.heap.size w w' := by
  obtain ⟨n, hn⟩ : ∃ n, L.length = n := ⟨_, rfl⟩
  obtain ⟨m, hm⟩ : ∃ n, R.length = n := ⟨_, rfl⟩
  obtain ⟨W, hW⟩ : ∃ W, (w.alloc (.cells #[.slice A.a n A.c] 24)).alloc (.cells #[.slice B.a m B.c] 24) = W := ⟨_, rfl⟩
  obtain ⟨x2, hx2⟩ : ∃ x, w.heap.size = x := ⟨_, rfl⟩
  have hBX : Below w.heap.size w W ∧ W.cell? ⟨x2, 0, none⟩ = some (.slice A.a n A.c) ∧ W.cell? ⟨x2 + 1, 0, none⟩ = some (.slice B.a m B.c) := by
    rw [← hW, ← hx2]
    exact ⟨by go_grown, by simp [go_sem], by simp [go_sem]⟩
  obtain ⟨hB, c0, d0⟩ := hBX
  have hmA : ∀ y ∈ A.om, y.x ∈ L := fun y hy => by rw [← hM.om]; exact List.mem_map.2 ⟨y, hy, rfl⟩
  have hmB : ∀ y ∈ B.om, y.x ∈ R := fun y hy => by rw [← hR.om]; exact List.mem_map.2 ⟨y, hy, rfl⟩
  have hE := equalF_any n A.c m B.c A.a B.a A.om B.om (by rw [hM.olen, hn]) (by omega) (by rw [hR.olen, hm]) (by omega) (fun y hy => hp y.x (hmA y hy)) (fun y hy => hq y.x (hmB y hy)) W (hM.row.later hB) (fun y hy => (hM.parts y hy).later hB) (hR.row.later hB) (fun y hy => (hR.parts y hy).later hB)
  rw [hM.om, hR.om] at hE
  have HE := Lib.hid hE
  have HB := Lib.hid (show Below x2 w W from hx2 ▸ hB)
  have HW := Lib.hid hW
  have HX2 := Lib.hid hx2
  show Calls Try.prog 14 #[.agg #[.slice A.a L.length A.c], .agg #[.slice B.a R.length B.c]] w _
  rw [hn, hm]
  clear hM hR hn hm hW hx2 hB hE hmA hmB hl hp hr hq
  go_enter Try.func14, Try.ntmps14
  go_wp2_with fail
  rw [HW.out, HX2.out]
  go_wp2_with fail
  refine HE.out.mono ?_
  rintro e w2 ⟨rfl, hb2⟩
  have HB2 := Lib.hid (HB.out.trans (hb2.mono (by have := HB.out.size; have := HX2.out; omega)))
  clear hb2 c0 d0
  go_wp2_with fail
  go_ret
  exact ⟨by first | rfl | simp, by rw [HX2.out]; exact HB2.out⟩
end Go.Proofs.Ytohhkacnjhgamaa
