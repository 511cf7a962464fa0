/- Whether coordinators are the same: the document's. -/
import Derived.Test.YtohhkacnjhgamaaOg
import Derived.Deep.RegionLaw
import Derived.Deep.DeepCutAuto
namespace Go.Proofs.Ytohhkacnjhgamaa
open Go.RowKit

def samD (x y : Dl) : Bool := decide (x.parts = y.parts) && (decide (x.t.age = y.t.age) && (decide (x.t.id = y.t.id) && decide (x.st = y.st)))
def samC : List Dl → List Dl → Bool
  | [], [] => true
  | x :: r, y :: s => samD x y && samC r s
  | _, _ => false
theorem samD_iff (x y : Dl) : samD x y = true ↔ x = y := by
  obtain ⟨⟨a, i⟩, p, s⟩ := x
  obtain ⟨⟨b, j⟩, q, t⟩ := y
  simp only [samD, Bool.and_eq_true, decide_eq_true_iff, Dl.mk.injEq, Tx.mk.injEq]
  constructor
  · rintro ⟨h1, h2, h3, h4⟩; exact ⟨⟨h2, h3⟩, h1, h4⟩
  · rintro ⟨⟨h2, h3⟩, h1, h4⟩; exact ⟨h1, h2, h3, h4⟩
theorem samC_iff : ∀ (P Q : List Dl), samC P Q = true ↔ P = Q
  | [], [] => by simp [samC]
  | [], _ :: _ => by simp [samC]
  | _ :: _, [] => by simp [samC]
  | x :: r, y :: s => by
    rw [samC, Bool.and_eq_true, samD_iff, samC_iff r s]; simp
theorem samC_len {P Q : List Dl} (h : ¬ P.length = Q.length) : samC P Q = false :=
  Bool.eq_false_iff.2 fun e => h (congrArg List.length ((samC_iff P Q).1 e))
theorem samC_at {P Q : List Dl} {k : Nat} {x y : Dl} (hx : P[k]? = some x) (hy : Q[k]? = some y) : samC (P.drop k) (Q.drop k) = (samD x y && samC (P.drop (k + 1)) (Q.drop (k + 1))) := by
  obtain ⟨hk, rfl⟩ := List.getElem?_eq_some_iff.1 hx
  obtain ⟨hk2, rfl⟩ := List.getElem?_eq_some_iff.1 hy
  rw [List.drop_eq_getElem_cons hk, List.drop_eq_getElem_cons hk2]; rfl
theorem int_neD {x y : Nat} (h : ¬ x = y) : ((x : Int) == (y : Int)) = false := by simp; omega
theorem deal_at {w : World} {L : List Dl} {A : Cad} (h : CoM w L A) {k : Nat} {x : Dl} (hx : L[k]? = some x) : ∃ y, A.om[k]? = some y ∧ y.x = x ∧ y ∈ A.om := by
  obtain ⟨y, hy⟩ : ∃ y, A.om[k]? = some y := ⟨_, List.getElem?_eq_getElem (by rw [h.olen]; exact (List.getElem?_eq_some_iff.1 hx).1)⟩
  have h1 : (A.om.map fun y => y.x)[k]? = some y.x := by rw [List.getElem?_map, hy]; rfl
  rw [h.om, hx] at h1
  exact ⟨y, hy, (Option.some.inj h1).symm, List.mem_of_getElem? hy⟩
set_option maxRecDepth 100000 in
set_option maxHeartbeats 8000000 in
theorem rSameC_any (L R : List Dl) (A B : Cad) (hl : L.length ≤ 140737488351232) (hp : ∀ x ∈ L, x.parts.length ≤ 140737488351232) (hr : R.length ≤ 140737488351232) (hq : ∀ x ∈ R, x.parts.length ≤ 140737488351232) (w : World) (hM : CoM w L A) (hR : CoM w R B) :
    Calls Try.prog 15 #[coV L A, coV R B] w fun e w' => e = .returned (.bool (samC L R)) ∧ Below w.heap.size w w' := by
  obtain ⟨n, hn⟩ : ∃ n, L.length = n := ⟨_, rfl⟩
  obtain ⟨m, hm⟩ : ∃ n, R.length = n := ⟨_, rfl⟩
  obtain ⟨W, hW⟩ : ∃ W, (w.alloc (.cells #[.slice A.a n A.c] 24)).alloc (.cells #[.slice B.a m B.c] 24) = W := ⟨_, rfl⟩
  obtain ⟨x2, hx2⟩ : ∃ x, w.heap.size = x := ⟨_, rfl⟩
  have hBX : Below w.heap.size w W ∧ x2 < W.heap.size ∧ x2 + 1 < W.heap.size ∧ W.cell? ⟨x2, 0, none⟩ = some (.slice A.a n A.c) ∧ W.cell? ⟨x2 + 1, 0, none⟩ = some (.slice B.a m B.c) := by
    rw [← hW, ← hx2]
    exact ⟨by go_grown, by simp; omega, by simp, by simp [go_sem], by simp [go_sem]⟩
  obtain ⟨hB, hl1, hl2, hc, hd⟩ := hBX
  have HPS := Lib.hid (fun w' (h : Below W.heap.size W w') (y z : DlM) (hy : y ∈ A.om) (hz : z ∈ B.om) => rSameN_any y.x.parts.length y.c z.x.parts.length z.c y.a z.a y.x.parts z.x.parts rfl (hp y.x (by rw [← hM.om]; exact List.mem_map.2 ⟨y, hy, rfl⟩)) rfl (hq z.x (by rw [← hR.om]; exact List.mem_map.2 ⟨z, hz, rfl⟩)) w' (((hM.later hB).later h).parts y hy) (((hR.later hB).later h).parts z hz))
  have HM := Lib.hid (hM.later hB)
  have HR := Lib.hid (hR.later hB)
  have HE := Lib.hid (fun w' (h : Below W.heap.size W w') => hB.trans (h.mono hB.size))
  have F1 := Lib.hid (fun w' (h : Below W.heap.size W w') => And.intro ((h.cell (p := ⟨x2, 0, none⟩) hl1).trans hc) ((h.cell (p := ⟨x2 + 1, 0, none⟩) hl2).trans hd))
  have HW := Lib.hid hW
  have HX2 := Lib.hid hx2
  have HN := Lib.hid hn
  have HNM := Lib.hid hm
  obtain ⟨v, hv⟩ : ∃ v, samC L R = v := ⟨_, rfl⟩
  rw [hv]
  have HV := Lib.hid hv
  show Calls Try.prog 15 #[.agg #[.slice A.a L.length A.c], .agg #[.slice B.a R.length B.c]] w _
  rw [hn, hm]
  rw [hn] at hl
  rw [hm] at hr
  obtain ⟨f1, f2⟩ := F1.out W (Below.refl _ _)
  by_cases hnm : n = m
  case neg =>
    obtain rfl : v = false := by
      rw [← HV.out]; exact samC_len (by omega)
    have g1 := int_neD hnm
    have g2 : ((n : Int) != (m : Int)) = true := by simp; omega
    clear hB hM hR hn hm hW hx2 hv hp hq hc hd hl1 hl2 hnm
    go_enter Try.func15, Try.ntmps15
    go_wp2_with fail
    rw [HW.out, HX2.out]
    go_wp2_with fail
    go_ret
    exact ⟨by first | rfl | simp, by first | exact HE.out _ (Below.refl _ _) | (have := HE.out _ (Below.refl _ _); rw [HX2.out] at this; exact this)⟩
  subst hnm
  have HV2 := Lib.hid (show samC (L.drop 0) (R.drop 0) = v from hv)
  clear hB hM hR hn hm hW hx2 hv hp hq hc hd hl1 hl2
  go_enter Try.func15, Try.ntmps15
  go_wp2_with fail
  rw [HW.out, HX2.out]
  go_wp2_with fail
  clear f1 f2
  go_loopw [5] (fun iv wr => ∃ k : Nat, k ≤ n ∧ iv = .int .i64 k ∧ samC (L.drop k) (R.drop k) = v ∧ Below W.heap.size W wr) (fun iv _ => n - (intOf iv).toNat)
  case atStart => exact ⟨0, Nat.zero_le _, rfl, HV2.out, Below.refl _ _⟩
  case round =>
    obtain ⟨k, hk, rfl, hf, hB⟩ := hrel
    have HF := Lib.hid hf
    have HB := Lib.hid hB
    obtain ⟨f1, f2⟩ := F1.out wr hB
    clear hf hB
    by_cases hlt : k < n
    case neg =>
      have i1 : ¬ (k : Int) < (n : Int) := by omega
      obtain rfl : v = true := by
        rw [← HF.out, List.drop_eq_nil_of_le (by rw [HN.out]; omega), List.drop_eq_nil_of_le (by rw [HNM.out]; omega)]; rfl
      go_wp2_with fail
      go_ret
      exact ⟨by first | rfl | simp, HE.out _ HB.out⟩
    obtain ⟨x, hx⟩ : ∃ x, L[k]? = some x := ⟨_, List.getElem?_eq_getElem (by rw [HN.out]; exact hlt)⟩
    obtain ⟨y, hy⟩ : ∃ y, R[k]? = some y := ⟨_, List.getElem?_eq_getElem (by rw [HNM.out]; exact hlt)⟩
    have i0 : (0 : Int) ≤ (k : Int) := by omega
    have i1 : (k : Int) < (n : Int) := by omega
    have HA := Lib.hid (HF.out.symm.trans (samC_at hx hy))
    obtain ⟨X, hX, hXx, hXm⟩ := deal_at HM.out hx
    obtain ⟨Y, hY, hYy, hYm⟩ := deal_at HR.out hy
    have HCP := Lib.hid (fun w' (h : Below W.heap.size W w') => HPS.out w' h X Y hXm hYm)
    have HXC := Lib.hid (fun w' (h : Below W.heap.size W w') => Dlm.cells (HM.out.later h).row hX)
    have HYC := Lib.hid (fun w' (h : Below W.heap.size W w') => Dlm.cells (HR.out.later h).row hY)
    rw [hXx] at HXC HCP
    rw [hYy] at HYC HCP
    obtain ⟨b1, o1, e1, _, p0, p1, p2, p3⟩ := HXC.out wr HB.out
    obtain ⟨b2, o2, e2, _, q0, q1, q2, q3⟩ := HYC.out wr HB.out
    have F3 := Lib.hid (fun w' (h : Below W.heap.size W w') => (show w'.cell? ⟨x2, 0, none⟩ = some (.slice (some ⟨b1, o1, none⟩) n A.c) ∧ w'.cell? ⟨x2 + 1, 0, none⟩ = some (.slice (some ⟨b2, o2, none⟩) n B.c) from by rw [← e1, ← e2]; exact F1.out w' h))
    have F4 := Lib.hid (fun w' (h : Below W.heap.size W w') => (show w'.cell? ⟨b1, o1 + k * 4, none⟩ = some (.int .u64 (x.t.age : Nat)) ∧ w'.cell? ⟨b1, o1 + k * 4 + 1, none⟩ = some (.int .u64 (x.t.id : Nat)) ∧ w'.cell? ⟨b1, o1 + k * 4 + 3, none⟩ = some (.int .i64 x.st) from by
      obtain ⟨b3, o3, e3, _, g0, g1, _, g3⟩ := HXC.out w' h
      rw [e1] at e3; cases e3; exact ⟨g0, g1, g3⟩))
    have F5 := Lib.hid (fun w' (h : Below W.heap.size W w') => (show w'.cell? ⟨b2, o2 + k * 4, none⟩ = some (.int .u64 (y.t.age : Nat)) ∧ w'.cell? ⟨b2, o2 + k * 4 + 1, none⟩ = some (.int .u64 (y.t.id : Nat)) ∧ w'.cell? ⟨b2, o2 + k * 4 + 3, none⟩ = some (.int .i64 y.st) from by
      obtain ⟨b3, o3, e3, _, g0, g1, _, g3⟩ := HYC.out w' h
      rw [e2] at e3; cases e3; exact ⟨g0, g1, g3⟩))
    rw [e1] at f1
    rw [e2] at f2
    obtain ⟨⟨xa, xi⟩, xp, xs⟩ := x
    obtain ⟨⟨ya, yi⟩, yp, ys⟩ := y
    simp only at p0 p1 p2 p3 q0 q1 q2 q3 HA HCP F4 F5
    obtain ⟨pz, hpz⟩ : ∃ z, decide (xp = yp) = z := ⟨_, rfl⟩
    rw [hpz] at HCP
    have HA2 := Lib.hid (show v = ((pz && (decide (xa = ya) && (decide (xi = yi) && decide (xs = ys)))) && samC (L.drop (k + 1)) (R.drop (k + 1))) from by rw [HA.out, ← hpz]; rfl)
    clear hx hy hX hY hXx hYy hXm hYm HXC HYC e1 e2 hpz HA
    have HCPO := HCP.out
    have HDR := Lib.hid (HB.out.drew)
    go_upto_region 6 with (fail)
    go_cut [6] (fun bv wx => bv = .bool pz ∧ Below W.heap.size W wx)
    case first =>
      go_region_law (go_simp; go_at_call 11; (with_reducible refine (HCPO _ HDR.out).mono ?_); rintro e w3 ⟨rfl, hb3⟩; have HB3 := Lib.hid (HDR.out.trans (hb3.mono HDR.out.size)); clear hb3)
      all_goals
        clear f1 f2 p0 p1 p2 p3 q0 q1 q2 q3 HCPO
        go_wp2_with fail
        go_meet
        exact ⟨rfl, HB3.out⟩
    case rest =>
      obtain ⟨rfl, hb3⟩ := hcut
      have HB3 := Lib.hid hb3
      clear hb3
      clear f1 f2 p0 p1 p2 p3 q0 q1 q2 q3 HCPO
      obtain ⟨f1, f2⟩ := F3.out _ HB3.out
      obtain ⟨p0, p1, p2⟩ := F4.out _ HB3.out
      obtain ⟨q0, q1, q2⟩ := F5.out _ HB3.out
      cases pz
      case false =>
        obtain rfl : v = false := by rw [HA2.out]; simp
        go_wp2_with fail
        go_quiet (fail)
        go_wp2_with fail
        go_ret
        exact ⟨by first | rfl | simp, below_drewN (HE.out _ HB3.out) _⟩
      by_cases h0 : xa = ya
      case neg =>
        have g1 := int_neD h0
        obtain rfl : v = false := by rw [HA2.out]; simp [h0]
        go_wp2_with fail
        go_quiet (fail)
        go_wp2_with fail
        go_ret
        exact ⟨by first | rfl | simp, below_drewN (HE.out _ HB3.out) _⟩
      subst h0
      by_cases h0 : xi = yi
      case neg =>
        have g1 := int_neD h0
        obtain rfl : v = false := by rw [HA2.out]; simp [h0]
        go_wp2_with fail
        go_quiet (fail)
        go_wp2_with fail
        go_ret
        exact ⟨by first | rfl | simp, below_drewN (HE.out _ HB3.out) _⟩
      subst h0
      by_cases h0 : xs = ys
      case neg =>
        have g1 : (xs == ys) = false := by simpa using h0
        have g2 : (xs != ys) = true := by simpa using h0
        obtain rfl : v = false := by rw [HA2.out]; simp [h0]
        go_wp2_with fail
        go_quiet (fail)
        go_wp2_with fail
        go_ret
        exact ⟨by first | rfl | simp, below_drewN (HE.out _ HB3.out) _⟩
      subst h0
      have HT := Lib.hid (show samC (L.drop (k + 1)) (R.drop (k + 1)) = v by rw [HA2.out]; simp)
      go_wp2_with fail
      go_quiet (fail)
      go_wp2_with fail
      go_roundw
      case rel => exact ⟨k + 1, by omega, by go_num, HT.out, below_drewN HB3.out _⟩
      case measure => simp [intOf]; omega
end Go.Proofs.Ytohhkacnjhgamaa
