/- Whether a coordinator is right: the document's. -/
import Derived.Test.YtohhkacnjhgamaaOf
namespace Go.Proofs.Ytohhkacnjhgamaa
open Go.RowKit

set_option maxRecDepth 100000 in
set_option maxHeartbeats 8000000 in
theorem rRightC_any (L : List Dl) (A : Cad) (hl : L.length ≤ 140737488351232) (hp : ∀ x ∈ L, x.parts.length ≤ 140737488351232) (w : World) (hM : CoM w L A) :
    Calls Try.prog 13 #[coV L A] w fun e w' => e = .returned (.bool (rightC L)) ∧ Below w.heap.size w w' := by
  obtain ⟨n, hn⟩ : ∃ n, L.length = n := ⟨_, rfl⟩
  obtain ⟨W, hW⟩ : ∃ W, w.alloc (.cells #[.slice A.a L.length A.c] 24) = W := ⟨_, rfl⟩
  obtain ⟨x1, hx1⟩ : ∃ x, w.heap.size = x := ⟨_, rfl⟩
  have hBX : Below w.heap.size w W ∧ x1 < W.heap.size ∧ W.cell? ⟨x1, 0, none⟩ = some (.slice A.a L.length A.c) := by
    rw [← hW, ← hx1]
    exact ⟨by go_grown, by simp, by simp [go_sem]⟩
  have HPL := Lib.hid (show ∀ (t : Tx) w', Below W.heap.size W w' → Calls Try.prog 19 #[.agg #[.slice A.a n A.c], txV t] w' fun e w'' => e = .returned (.int .i64 (ixI (pixC t 0 L))) ∧ Below w'.heap.size w' w'' from fun t w' h => by have := rPlace_any L A t hl w' ((hM.later hBX.1).later h); unfold coV at this; rw [hn] at this; exact this)
  have HMA := Lib.hid (fun (y : DlM) (hy : y ∈ A.om) w' (h : Below W.heap.size W w') => rMay_any y.x.parts.length y.c y.a y.x.parts rfl (hp y.x (by rw [← hM.om]; exact List.mem_map.2 ⟨y, hy, rfl⟩)) w' (((hM.later hBX.1).later h).parts y hy))
  have HMM := Lib.hid (hM.later hBX.1)
  rw [hn] at hBX hW hl
  have HB0 := Lib.hid (show Below x1 w W from hx1 ▸ hBX.1)
  have HB1 := Lib.hid hBX.1
  have HC := Lib.hid (fun w' (h : Below W.heap.size W w') => (h.cell (p := ⟨x1, 0, none⟩) hBX.2.1).trans hBX.2.2)
  have HN := Lib.hid hn
  have HR := Lib.hid (right_ri L)
  have HW := Lib.hid hW
  have HX1 := Lib.hid hx1
  obtain ⟨v, hv⟩ : ∃ v, rightC L = v := ⟨_, rfl⟩
  rw [hv] at HR ⊢
  show Calls Try.prog 13 #[.agg #[.slice A.a L.length A.c]] w _
  rw [hn] at HR ⊢
  have c0 := HC.out W (Below.refl _ _)
  clear hM hp hv hn hBX hx1 hW
  by_cases h64 : 64 < n
  · obtain rfl : v = false := by rw [HR.out, decide_eq_false (by omega)]; rfl
    have g : (64 : Int) < (n : Int) := by omega
    go_enter Try.func13, Try.ntmps13
    go_wp2_with fail
    rw [HW.out, HX1.out]
    go_wp2_with fail
    go_ret
    exact ⟨by first | rfl | simp, HB0.out⟩
  have g : ¬ (64 : Int) < (n : Int) := by omega
  have HA := Lib.hid (show riA L 0 (L.drop 0) = v from by rw [HR.out, decide_eq_true (by omega)]; rfl)
  go_enter Try.func13, Try.ntmps13
  go_wp2_with fail
  rw [HW.out, HX1.out]
  go_wp2_with fail
  clear c0
  go_loopw [3] (fun u wr => ∃ k : Nat, k ≤ n ∧ u = .int .i64 k ∧ riA L k (L.drop k) = v ∧ Below W.heap.size W wr) (fun u _ => n - (intOf u).toNat)
  case atStart => exact ⟨0, Nat.zero_le _, rfl, HA.out, Below.refl _ _⟩
  case round =>
    obtain ⟨k, hk, rfl, hf, hB⟩ := hrel
    have HB := Lib.hid hB
    have c0 := HC.out _ hB
    by_cases hlt : k < n
    case neg =>
      have i1 : ¬ (k : Int) < (n : Int) := by omega
      obtain rfl : v = true := by rw [← hf, List.drop_eq_nil_of_le (by rw [HN.out]; omega)]; rfl
      clear hB hf
      go_wp2_with fail
      go_ret
      exact ⟨by first | rfl | simp, HB1.out.trans (HB.out.mono HB1.out.size)⟩
    have i0 : (0 : Int) ≤ (k : Int) := by omega
    have i1 : (k : Int) < (n : Int) := by omega
    obtain ⟨y, hy⟩ : ∃ y, A.om[k]? = some y := ⟨_, List.getElem?_eq_getElem (by rw [HMM.out.olen, HN.out]; exact hlt)⟩
    have hx : L[k]? = some y.x := by rw [← HMM.out.om, List.getElem?_map, hy]; rfl
    have HT := Lib.hid (hf.symm.trans (ri_at (L0 := L) hx))
    have HMY := Lib.hid (fun w' h => HMA.out y (List.mem_of_getElem? hy) w' h)
    obtain ⟨b, off, ha, hb, p0, p1, p2, p3⟩ := Dlm.cells (HMM.out.later hB).row hy
    rw [ha] at c0
    clear hf hx hy ha hb hB
    obtain ⟨⟨⟨ya, yi⟩, yp, ys⟩, pa, pc⟩ := y
    simp only at p0 p1 p2 p3 HT HMY
    obtain ⟨W1, hW1⟩ : ∃ V, wr.alloc (.cells #[.int .u64 (ya : Nat), .int .u64 (yi : Nat), .slice pa yp.length pc, .int .i64 ys] 31) = V := ⟨_, rfl⟩
    obtain ⟨z4, hz4⟩ : ∃ z, wr.heap.size = z := ⟨_, rfl⟩
    have BV : Below wr.heap.size wr W1 := hW1 ▸ (Below.refl _ _).alloc (Nat.le_refl _) _
    have hV : z4 < W1.heap.size ∧ W1.cell? ⟨z4, 0, none⟩ = some (.int .u64 (ya : Nat)) ∧ W1.cell? ⟨z4, 1, none⟩ = some (.int .u64 (yi : Nat)) ∧ W1.cell? ⟨z4, 2, none⟩ = some (.slice pa yp.length pc) ∧ W1.cell? ⟨z4, 3, none⟩ = some (.int .i64 ys) := by
      rw [← hW1, ← hz4]; exact ⟨by simp, by simp [go_sem], by simp [go_sem], by simp [go_sem], by simp [go_sem]⟩
    have HV := Lib.hid hV
    have HBV := Lib.hid (HB.out.trans (BV.mono HB.out.size))
    obtain ⟨_, v0, v1, v2, v3⟩ := hV
    obtain ⟨mb, hmb⟩ : ∃ m, mayC yp = m := ⟨_, rfl⟩
    rw [hmb] at HMY
    have HOK := Lib.hid (show dlOk ⟨⟨ya, yi⟩, yp, ys⟩ = (decide (0 ≤ ys ∧ ys ≤ 2) && (mb || (decide (yp.length = 0) && decide (ys = 2)))) from by rw [← hmb]; rfl)
    clear BV hmb
    go_wp2_with fail
    refine (HMY.out W1 HBV.out).mono ?_
    rintro e w2 ⟨rfl, hb2⟩
    have HB2 := Lib.hid (HBV.out.trans (hb2.mono HBV.out.size))
    have f : ∀ j u, W1.cell? ⟨z4, j, none⟩ = some u → w2.cell? ⟨z4, j, none⟩ = some u := fun j u e => (hb2.cell (p := ⟨z4, j, none⟩) HV.out.1).trans e
    have hz2 : z4 < w2.heap.size := Nat.lt_of_lt_of_le HV.out.1 hb2.size
    have u0 := f _ _ HV.out.2.1
    have u1 := f _ _ HV.out.2.2.1
    have u2 := f _ _ HV.out.2.2.2.1
    have u3 := f _ _ HV.out.2.2.2.2
    have HU := Lib.hid (And.intro hz2 (And.intro u0 (And.intro u1 (And.intro u2 u3))))
    have c0 := HC.out _ HB2.out
    clear f hb2 hz2 p0 p1 p2 p3 v0 v1 v2 v3 hW1 hz4
    go_wp2_with fail
    refine (HPL.out ⟨ya, yi⟩ w2 HB2.out).mono ?_
    rintro e w3 ⟨rfl, hb3⟩
    have HB3 := Lib.hid (HB2.out.trans (hb3.mono HB2.out.size))
    have HE3 := Lib.hid (HB1.out.trans (HB3.out.mono HB1.out.size))
    have f : ∀ j u, w2.cell? ⟨z4, j, none⟩ = some u → w3.cell? ⟨z4, j, none⟩ = some u := fun j u e => (hb3.cell (p := ⟨z4, j, none⟩) HU.out.1).trans e
    have t0 := f _ _ HU.out.2.1
    have t1 := f _ _ HU.out.2.2.1
    have t2 := f _ _ HU.out.2.2.2.1
    have t3 := f _ _ HU.out.2.2.2.2
    clear f hb3 u0 u1 u2 u3 c0
    obtain ⟨px, hpx⟩ : ∃ p, pixC ⟨ya, yi⟩ 0 L = p := ⟨_, rfl⟩
    rw [hpx] at HT ⊢
    clear hpx
    by_cases hk2 : px = some k
    case neg =>
      obtain rfl : v = false := by rw [HT.out, decide_eq_false hk2]; rfl
      obtain ⟨g1, g2⟩ := ixI_ne hk2
      clear hk2
      go_wp2_with fail
      go_ret
      exact ⟨by first | rfl | simp, HE3.out⟩
    subst hk2
    have gI : ixI (some k) = (k : Int) := rfl
    rw [gI]
    have HT2 := Lib.hid (show v = ((decide (0 ≤ ys ∧ ys ≤ 2) && (mb || (decide (yp.length = 0) && decide (ys = 2)))) && riA L (k + 1) (L.drop (k + 1))) from by rw [HT.out, HOK.out]; simp)
    clear gI
    have g0 : ((k : Int) != (k : Int)) = false := by simp
    by_cases s1 : ys < 0
    · obtain rfl : v = false := by rw [HT2.out, decide_eq_false (by omega)]; rfl
      have s1' : decide (ys < 0) = true := decide_eq_true s1
      go_wp2_with fail
      go_ret
      exact ⟨by first | rfl | simp, HE3.out⟩
    have s1' : decide (ys < 0) = false := decide_eq_false s1
    by_cases s2 : 2 < ys
    · obtain rfl : v = false := by rw [HT2.out, decide_eq_false (by omega)]; rfl
      have s2' : decide (2 < ys) = true := decide_eq_true s2
      go_wp2_with fail
      go_ret
      exact ⟨by first | rfl | simp, HE3.out⟩
    have s2' : decide (2 < ys) = false := decide_eq_false s2
    have HT3 := Lib.hid (show v = ((mb || (decide (yp.length = 0) && decide (ys = 2))) && riA L (k + 1) (L.drop (k + 1))) from by rw [HT2.out, decide_eq_true (show 0 ≤ ys ∧ ys ≤ 2 by omega), Bool.true_and])
    cases mb
    case true =>
      have HT4 := Lib.hid (show riA L (k + 1) (L.drop (k + 1)) = v from by rw [HT3.out]; rfl)
      go_wp2_with fail
      go_roundw
      case rel => exact ⟨k + 1, by omega, by go_num, HT4.out, HB3.out⟩
      case measure => simp [intOf]; omega
    obtain ⟨m, hm⟩ : ∃ m, yp.length = m := ⟨_, rfl⟩
    rw [hm] at HT3 t2
    clear hm
    by_cases l0 : 0 < m
    · obtain rfl : v = false := by rw [HT3.out, decide_eq_false (show ¬ m = 0 by omega)]; rfl
      have l1 : (0 : Int) < (m : Int) := by omega
      go_wp2_with fail
      go_ret
      exact ⟨by first | rfl | simp, HE3.out⟩
    obtain rfl : m = 0 := by omega
    by_cases s3 : ys = 2
    · subst s3
      have HT4 := Lib.hid (show riA L (k + 1) (L.drop (k + 1)) = v from by rw [HT3.out]; rfl)
      go_wp2_with fail
      go_roundw
      case rel => exact ⟨k + 1, by omega, by go_num, HT4.out, HB3.out⟩
      case measure => simp [intOf]; omega
    · obtain rfl : v = false := by rw [HT3.out, decide_eq_false s3]; rfl
      have s4 : (ys == 2) = false := by simpa using s3
      have s5 : (ys != 2) = true := by simpa using s3
      clear s3
      go_wp2_with fail
      go_ret
      exact ⟨by first | rfl | simp, HE3.out⟩
end Go.Proofs.Ytohhkacnjhgamaa
