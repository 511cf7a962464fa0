/- The document's May. -/
import Derived.Test.YtohhkacnjhgamaaOc
namespace Go.Proofs.Ytohhkacnjhgamaa
open Go.RowKit

/-- The number ahead of one. -/
def prvC : List Nat → Nat → Nat
  | _, 0 => 0
  | L, k + 1 => L.getD k 0
theorem asc_at {L : List Nat} {k x : Nat} (hx : L[k]? = some x) : ascP (prvC L k) (L.drop k) = (decide (prvC L k < x) && (decide (x ≤ 63) && ascP (prvC L (k + 1)) (L.drop (k + 1)))) := by
  obtain ⟨hk, e⟩ := List.getElem?_eq_some_iff.1 hx
  have h2 : prvC L (k + 1) = x := by simp [prvC, List.getD_eq_getElem?_getD, hx]
  rw [h2, List.drop_eq_getElem_cons hk, e, ascP]
set_option maxRecDepth 100000 in
set_option maxHeartbeats 4000000 in
theorem rMay_any (n c : Nat) (a : Option Addr) (L : List Nat) (hn : L.length = n) (hl : n ≤ 140737488351232) (w : World) (hM : Nus w a L) :
    Calls Try.prog 23 #[.slice a n c] w fun e w' => e = .returned (.bool (mayC L)) ∧ Below w.heap.size w w' := by
  have HN := Lib.hid hn
  have HM := Lib.hid hM
  by_cases h1 : n < 1
  · have h1' : (n : Int) < 1 := by omega
    have HR := Lib.hid (show mayC L = false from by unfold mayC; rw [hn, decide_eq_false (by omega), Bool.false_and])
    clear hn hM
    go_enter Try.func23, Try.ntmps23
    go_wp2_with fail
    go_ret
    exact ⟨by rw [HR.out]; first | rfl | simp, by first | exact Below.refl _ _ | go_grown⟩
  have h1' : ¬ (n : Int) < 1 := by omega
  by_cases h8 : 8 < n
  · have h8' : (8 : Int) < (n : Int) := by omega
    have HR := Lib.hid (show mayC L = false from by unfold mayC; rw [hn, decide_eq_false (show ¬ n ≤ 8 by omega), Bool.false_and, Bool.and_false])
    clear hn hM
    go_enter Try.func23, Try.ntmps23
    go_wp2_with fail
    go_ret
    exact ⟨by rw [HR.out]; first | rfl | simp, by first | exact Below.refl _ _ | go_grown⟩
  have h8' : ¬ (8 : Int) < (n : Int) := by omega
  obtain ⟨r, hr⟩ : ∃ r, ascP 0 L = r := ⟨_, rfl⟩
  have HR := Lib.hid (show mayC L = r from by unfold mayC; rw [hn, hr, decide_eq_true (show 1 ≤ n by omega), decide_eq_true (show n ≤ 8 by omega)]; rfl)
  have HA := Lib.hid (show ascP (prvC L 0) (L.drop 0) = r from hr)
  rw [HR.out]
  clear hn hM hr
  go_enter Try.func23, Try.ntmps23
  go_wp2_with fail
  go_loopw [3] (fun u wr => ∃ k : Nat, k ≤ n ∧ u = .int .i64 k ∧ ascP (prvC L k) (L.drop k) = r ∧ Below w.heap.size w wr) (fun u _ => n - (intOf u).toNat)
  case atStart => exact ⟨0, Nat.zero_le _, rfl, HA.out, Below.refl _ _⟩
  case round =>
    obtain ⟨k, hk, rfl, hf, hB⟩ := hrel
    have HB := Lib.hid hB
    by_cases hlt : k < n
    case neg =>
      have i1 : ¬ (k : Int) < (n : Int) := by omega
      obtain rfl : r = true := by rw [← hf, List.drop_eq_nil_of_le (by rw [HN.out]; omega)]; rfl
      clear hB hf
      go_wp2_with fail
      go_ret
      exact ⟨by first | rfl | simp, HB.out⟩
    have i0 : (0 : Int) ≤ (k : Int) := by omega
    have i1 : (k : Int) < (n : Int) := by omega
    obtain ⟨x, hx⟩ : ∃ x, L[k]? = some x := ⟨_, List.getElem?_eq_getElem (by rw [HN.out]; exact hlt)⟩
    have HT := Lib.hid (hf.symm.trans (asc_at hx))
    obtain ⟨b, off, rfl, hb, p0⟩ := Nus.cell (HM.out.later hB) hx
    clear hf hx
    by_cases g1 : x < 1
    · obtain rfl : r = false := by rw [HT.out, decide_eq_false (by omega), Bool.false_and]
      have g1' : decide ((x : Int) < 1) = true := decide_eq_true (by omega)
      clear hB
      go_wp2_with fail
      go_quiet (fail)
      go_wp2_with fail
      go_ret
      exact ⟨by first | rfl | simp, below_drewN HB.out _⟩
    have g1' : decide ((x : Int) < 1) = false := decide_eq_false (by omega)
    by_cases g2 : 63 < x
    · obtain rfl : r = false := by rw [HT.out, decide_eq_false (show ¬ x ≤ 63 by omega), Bool.false_and, Bool.and_false]
      have g2' : decide ((63 : Int) < (x : Int)) = true := decide_eq_true (by omega)
      clear hB
      go_wp2_with fail
      go_quiet (fail)
      go_wp2_with fail
      go_ret
      exact ⟨by first | rfl | simp, below_drewN HB.out _⟩
    have g2' : decide ((63 : Int) < (x : Int)) = false := decide_eq_false (by omega)
    by_cases hk0 : k = 0
    · subst hk0
      simp only [Nat.add_zero] at p0
      have HT2 := Lib.hid (show ascP (prvC L (0 + 1)) (L.drop (0 + 1)) = r from by rw [HT.out, decide_eq_true (show prvC L 0 < x from by show 0 < x; omega), decide_eq_true (show x ≤ 63 by omega)]; rfl)
      clear hB
      go_wp2_with fail
      go_quiet (fail)
      go_wp2_with fail
      go_roundw
      case rel => exact ⟨0 + 1, by omega, by go_num, HT2.out, below_drewN HB.out _⟩
      case measure => simp [intOf]; omega
    obtain ⟨m, hm⟩ : ∃ m, k = m + 1 := ⟨k - 1, by omega⟩
    obtain ⟨y, hy⟩ : ∃ y, L[m]? = some y := ⟨_, List.getElem?_eq_getElem (by rw [HN.out]; omega)⟩
    have hpv : prvC L k = y := by rw [hm]; simp [prvC, List.getD_eq_getElem?_getD, hy]
    rw [hpv] at HT
    obtain ⟨b', off', e, _, p1⟩ := Nus.cell (HM.out.later hB) hy
    cases e
    have j0 : decide (0 < k) = true := decide_eq_true (by omega)
    have j1 : (k : Int) - 1 = (m : Int) := by omega
    have j2 : (m : Int) < (n : Int) := by omega
    have j3 : (0 : Int) ≤ (m : Int) := by omega
    clear hB hy hpv hm
    by_cases g3 : x ≤ y
    · obtain rfl : r = false := by rw [HT.out, decide_eq_false (show ¬ y < x by omega), Bool.false_and]
      have g3' : decide (x ≤ y) = true := decide_eq_true (by omega)
      go_wp2_with fail
      go_quiet (fail)
      go_wp2_with fail
      go_ret
      exact ⟨by first | rfl | simp, below_drewN HB.out _⟩
    have HT2 := Lib.hid (show ascP (prvC L (k + 1)) (L.drop (k + 1)) = r from by rw [HT.out, decide_eq_true (show y < x by omega), decide_eq_true (show x ≤ 63 by omega)]; rfl)
    have g3' : decide (x ≤ y) = false := decide_eq_false (by omega)
    go_wp2_with fail
    go_quiet (fail)
    go_wp2_with fail
    go_roundw
    case rel => exact ⟨k + 1, by omega, by go_num, HT2.out, below_drewN HB.out _⟩
    case measure => simp [intOf]; omega
end Go.Proofs.Ytohhkacnjhgamaa
