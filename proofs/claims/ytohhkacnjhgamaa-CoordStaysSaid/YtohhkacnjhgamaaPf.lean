/- Which groups may take part: the program's valid. -/
import Derived.Test.YtohhkacnjhgamaaPb
import Derived.Test.YtohhkacnjhgamaaOe
namespace Go.Proofs.Ytohhkacnjhgamaa
open Go.RowKit

set_option maxRecDepth 100000 in
set_option maxHeartbeats 4000000 in
theorem valid_any (n c : Nat) (a : Option Addr) (L : List Nat) (hn : L.length = n) (hl : n ≤ 140737488351232) (w : World) (hM : Nus w a L) :
    Calls Try.prog 21 #[.slice a n c] w fun e w' => e = .returned (.bool (mayC L)) ∧ Below w.heap.size w w' := by
  have HN := Lib.hid hn
  have HM := Lib.hid hM
  by_cases h1 : n < 1
  · have h1' : decide ((n : Int) < 1) = true := decide_eq_true (by omega)
    have HR := Lib.hid (show mayC L = false from by unfold mayC; rw [hn, decide_eq_false (by omega), Bool.false_and])
    clear hn hM
    go_enter Try.func21, Try.ntmps21
    go_wp2_with fail
    go_ret
    exact ⟨by rw [HR.out]; first | rfl | simp, by first | exact Below.refl _ _ | go_grown⟩
  have h1' : decide ((n : Int) < 1) = false := decide_eq_false (by omega)
  by_cases h8 : 8 < n
  · have h8' : decide ((8 : Int) < (n : Int)) = true := decide_eq_true (by omega)
    have HR := Lib.hid (show mayC L = false from by unfold mayC; rw [hn, decide_eq_false (show ¬ n ≤ 8 by omega), Bool.false_and, Bool.and_false])
    clear hn hM
    go_enter Try.func21, Try.ntmps21
    go_wp2_with fail
    go_ret
    exact ⟨by rw [HR.out]; first | rfl | simp, by first | exact Below.refl _ _ | go_grown⟩
  have h8' : decide ((8 : Int) < (n : Int)) = false := decide_eq_false (by omega)
  obtain ⟨r, hr⟩ : ∃ r, ascP 0 L = r := ⟨_, rfl⟩
  have HR := Lib.hid (show mayC L = r from by unfold mayC; rw [hn, hr, decide_eq_true (show 1 ≤ n by omega), decide_eq_true (show n ≤ 8 by omega)]; rfl)
  have HA := Lib.hid (show ascP (prvC L 0) (L.drop 0) = r from hr)
  rw [HR.out]
  clear hn hM hr
  go_enter Try.func21, Try.ntmps21
  go_wp2_with fail
  go_loopw [3, 16] (fun lv u wr => ∃ k : Nat, k ≤ n ∧ u = .int .i64 k ∧ lv = .int .u64 (prvC L k : Nat) ∧ ascP (prvC L k) (L.drop k) = r ∧ Below w.heap.size w wr) (fun _ u _ => n - (intOf u).toNat)
  case atStart => exact ⟨0, Nat.zero_le _, rfl, rfl, HA.out, Below.refl _ _⟩
  case round =>
    obtain ⟨k, hk, rfl, rfl, hf, hB⟩ := hrel
    have HB := Lib.hid hB
    obtain ⟨pv, hpv⟩ : ∃ p, prvC L k = p := ⟨_, rfl⟩
    rw [hpv] at hf ⊢
    by_cases hlt : k < n
    case neg =>
      have i1 : ¬ (k : Int) < (n : Int) := by omega
      obtain rfl : r = true := by rw [← hf, List.drop_eq_nil_of_le (by rw [HN.out]; omega)]; rfl
      clear hB hf hpv
      go_wp2_with fail
      go_ret
      exact ⟨by first | rfl | simp, HB.out⟩
    have i0 : (0 : Int) ≤ (k : Int) := by omega
    have i1 : (k : Int) < (n : Int) := by omega
    obtain ⟨x, hx⟩ : ∃ x, L[k]? = some x := ⟨_, List.getElem?_eq_getElem (by rw [HN.out]; exact hlt)⟩
    have hat := asc_at hx
    rw [hpv] at hat
    have HT := Lib.hid (hf.symm.trans hat)
    have hnx : prvC L (k + 1) = x := by simp [prvC, List.getD_eq_getElem?_getD, hx]
    have HNX := Lib.hid hnx
    obtain ⟨b, off, rfl, hb, p0⟩ := Nus.cell (HM.out.later hB) hx
    clear hf hx hat hpv hnx hB
    by_cases g1 : x ≤ pv
    · obtain rfl : r = false := by rw [HT.out, decide_eq_false (by omega), Bool.false_and]
      have g1' : decide (x ≤ pv) = true := decide_eq_true (by omega)
      have g1'' : decide ((x : Int) ≤ (pv : Int)) = true := decide_eq_true (by omega)
      go_wp2_with fail
      go_ret
      exact ⟨by first | rfl | simp, HB.out⟩
    have g1' : decide (x ≤ pv) = false := decide_eq_false (by omega)
    have g1'' : decide ((x : Int) ≤ (pv : Int)) = false := decide_eq_false (by omega)
    by_cases g2 : 63 < x
    · obtain rfl : r = false := by rw [HT.out, decide_eq_false (show ¬ x ≤ 63 by omega), Bool.false_and, Bool.and_false]
      have g2' : decide ((63 : Int) < (x : Int)) = true := decide_eq_true (by omega)
      go_wp2_with fail
      go_ret
      exact ⟨by first | rfl | simp, HB.out⟩
    have g2' : decide ((63 : Int) < (x : Int)) = false := decide_eq_false (by omega)
    have HT2 := Lib.hid (show ascP (prvC L (k + 1)) (L.drop (k + 1)) = r from by rw [HT.out, decide_eq_true (show pv < x by omega), decide_eq_true (show x ≤ 63 by omega)]; rfl)
    go_wp2_with fail
    go_roundw
    case rel => exact ⟨k + 1, by omega, by go_num, by rw [HNX.out], HT2.out, HB.out⟩
    case measure => simp [intOf]; omega
end Go.Proofs.Ytohhkacnjhgamaa
