/- Which lists may be: the program and the document. -/
import Derived.Test.YtoabpakichjieaaGb
namespace Go.Proofs.Ytoabpakichjieaa
open Go.RowKit

set_option maxHeartbeats 2000000 in
theorem pMemb_any (n c most : Nat) (a : Option Addr) (L : List Nat) (hn : L.length = n) (hl : n ≤ 140737488351232) (w : World) (hU : Us w a L) :
    Calls Try.prog 47 #[.slice a n c, .int .i64 most] w fun e w' => e = .returned (.bool (membB most L)) ∧ w = w' := by
  have HN := Lib.hid hn
  have HU := Lib.hid hU
  clear hU
  by_cases hm : n ≤ most
  case neg =>
    have g : (most : Int) < (n : Int) := by omega
    have HT := Lib.hid (show membB most L = false by unfold membB; rw [hn, decide_eq_false hm]; rfl)
    clear hm hn
    go_enter Try.func47, Try.ntmps47
    go_wp2_with fail
    go_ret
    exact ⟨by rw [HT.out]; first | rfl | simp, rfl⟩
  have g : ¬ (most : Int) < (n : Int) := by omega
  have HM := Lib.hid (show membB most L = risesF 0 L by unfold membB; rw [hn, decide_eq_true hm]; rfl)
  clear hm hn
  go_enter Try.func47, Try.ntmps47
  go_wp2_with fail
  go_loop [13] (fun u => ∃ k : Nat, k ≤ n ∧ u = .int .i64 k ∧ risesF 0 L = risesF (prevN L k) (L.drop k)) (fun u => n - (intOf u).toNat)
  case atStart => exact ⟨0, Nat.zero_le _, rfl, rfl⟩
  case round =>
    obtain ⟨k, hk, rfl, hf⟩ := hrel
    have HFB := Lib.hid hf
    clear hf
    by_cases hlt : k < n
    · obtain ⟨x, hx⟩ : ∃ x, L[k]? = some x := ⟨_, List.getElem?_eq_getElem (by rw [HN.out]; exact hlt)⟩
      have i0 : (0 : Int) ≤ (k : Int) := by omega
      have i1 : (k : Int) < (n : Int) := by omega
      obtain ⟨b, off, rfl, hb, p0⟩ := HU.out k x hx
      have HFA := Lib.hid (HFB.out.trans (risesF_at (p := prevN L k) hx))
      have HP := Lib.hid (prevN_at hx)
      by_cases hid : 1 ≤ x ∧ x ≤ 63
      case neg =>
        have HD := Lib.hid (show decide (1 ≤ x ∧ x ≤ 63) = false from decide_eq_false hid)
        have HT := Lib.hid (show membB most L = false by
          rw [HM.out, HFA.out, decide_eq_false (by intro h; exact hid ⟨by omega, h.2⟩)]; rfl)
        clear hx hid
        go_wp2_with fail
        refine (pMayId_any x _).mono ?_
        rintro e w2 ⟨rfl, rfl⟩
        rw [HD.out]
        go_wp2_with fail
        go_ret
        exact ⟨by rw [HT.out]; first | rfl | simp, rfl⟩
      have HD := Lib.hid (show decide (1 ≤ x ∧ x ≤ 63) = true from decide_eq_true hid)
      obtain ⟨hi1, hi2⟩ := hid
      by_cases hk0 : k = 0
      · subst hk0
        have HT := Lib.hid (show risesF 0 L = risesF (prevN L (0 + 1)) (L.drop (0 + 1)) by
          rw [HFA.out, HP.out, decide_eq_true (by exact ⟨by simp only [prevN]; omega, hi2⟩)]; rfl)
        simp only [Nat.add_zero] at p0
        clear hx
        go_wp2_with fail
        refine (pMayId_any x _).mono ?_
        rintro e w2 ⟨rfl, rfl⟩
        rw [HD.out]
        go_wp2_with fail
        go_round
        case rel => exact ⟨0 + 1, by omega, by go_num, HT.out⟩
        case measure => simp [intOf]; omega
      · obtain ⟨k1, hk1⟩ : ∃ k1, k = k1 + 1 := ⟨k - 1, by omega⟩
        obtain ⟨y, hy⟩ : ∃ y, L[k1]? = some y := ⟨_, List.getElem?_eq_getElem (by rw [HN.out]; omega)⟩
        obtain ⟨b', off', e', hb', q0⟩ := HU.out k1 y hy
        cases e'
        have HY := Lib.hid (show prevN L k = y by rw [hk1]; exact prevN_at hy)
        have e1 : (k : Int) - 1 = (k1 : Int) := by omega
        have j0 : (0 : Int) ≤ (k1 : Int) := by omega
        have j1 : (k1 : Int) < (n : Int) := by omega
        have j2 : (0 : Int) < (k : Int) := by omega
        have HK1 := Lib.hid hk1
        clear hk1 hk0 hx hy
        by_cases hle : x ≤ y
        · have g3 : (x : Int) ≤ (y : Int) := by omega
          have HT := Lib.hid (show membB most L = false by
            rw [HM.out, HFA.out, decide_eq_false (by rw [HY.out]; omega)]; rfl)
          go_wp2_with fail
          refine (pMayId_any x _).mono ?_
          rintro e w2 ⟨rfl, rfl⟩
          rw [HD.out]
          go_wp2_with fail
          go_ret
          exact ⟨by rw [HT.out]; first | rfl | simp, rfl⟩
        · have g3 : ¬ (x : Int) ≤ (y : Int) := by omega
          have HT := Lib.hid (show risesF 0 L = risesF (prevN L (k + 1)) (L.drop (k + 1)) by
            rw [HFA.out, HP.out, decide_eq_true (by rw [HY.out]; omega)]; rfl)
          go_wp2_with fail
          refine (pMayId_any x _).mono ?_
          rintro e w2 ⟨rfl, rfl⟩
          rw [HD.out]
          go_wp2_with fail
          go_round
          case rel => exact ⟨k + 1, by omega, by go_num, HT.out⟩
          case measure => simp [intOf]; omega
    · have HT := Lib.hid (show membB most L = true by rw [HM.out, HFB.out, List.drop_eq_nil_of_le (by rw [HN.out]; omega)]; rfl)
      go_wp2_with fail
      go_ret
      exact ⟨by rw [HT.out]; first | rfl | simp, rfl⟩
set_option maxHeartbeats 2000000 in
theorem rRises_any (n c : Nat) (a : Option Addr) (L : List Nat) (hn : L.length = n) (hl : n ≤ 140737488351232) (w : World) (hU : Us w a L) :
    Calls Try.prog 50 #[.slice a n c] w fun e w' => e = .returned (.bool (risesF 0 L)) ∧ Below w.heap.size w w' := by
  have HN := Lib.hid hn
  have HU := Lib.hid hU
  have HW := Lib.hid (Below.refl w.heap.size w)
  clear hU hn
  go_enter Try.func50, Try.ntmps50
  go_wp2_with fail
  go_loopw [3] (fun u wr => ∃ k : Nat, k ≤ n ∧ u = .int .i64 k ∧ risesF 0 L = risesF (prevN L k) (L.drop k) ∧ Below w.heap.size w wr) (fun u _ => n - (intOf u).toNat)
  case atStart => exact ⟨0, Nat.zero_le _, rfl, rfl, HW.out⟩
  case round =>
    obtain ⟨k, hk, rfl, hf, hB⟩ := hrel
    have HFB := Lib.hid hf
    have HB := Lib.hid hB
    clear hf
    by_cases hlt : k < n
    · obtain ⟨x, hx⟩ : ∃ x, L[k]? = some x := ⟨_, List.getElem?_eq_getElem (by rw [HN.out]; exact hlt)⟩
      have i0 : (0 : Int) ≤ (k : Int) := by omega
      have i1 : (k : Int) < (n : Int) := by omega
      obtain ⟨b, off, rfl, hb, p0⟩ := HU.out.later hB k x hx
      clear hB
      have HFA := Lib.hid (HFB.out.trans (risesF_at (p := prevN L k) hx))
      have HP := Lib.hid (prevN_at hx)
      by_cases h1 : x < 1
      · have g1 : decide ((x : Int) < 1) = true := decide_eq_true (by omega)
        have HT := Lib.hid (show risesF 0 L = false by rw [HFA.out, decide_eq_false (by omega)]; rfl)
        clear hx
        go_wp2_with fail
        go_quiet (fail)
        go_wp2_with fail
        go_ret
        exact ⟨by rw [HT.out]; first | rfl | simp, below_drewN HB.out _⟩
      have g1 : decide ((x : Int) < 1) = false := decide_eq_false (by omega)
      by_cases h2 : 63 < x
      · have g2 : decide ((63 : Int) < (x : Int)) = true := decide_eq_true (by omega)
        have HT := Lib.hid (show risesF 0 L = false by rw [HFA.out, decide_eq_false (by omega)]; rfl)
        clear hx
        go_wp2_with fail
        go_quiet (fail)
        go_wp2_with fail
        go_ret
        exact ⟨by rw [HT.out]; first | rfl | simp, below_drewN HB.out _⟩
      have g2 : decide ((63 : Int) < (x : Int)) = false := decide_eq_false (by omega)
      by_cases hk0 : k = 0
      · subst hk0
        have g3 : decide ((0 : Int) < ((0 : Nat) : Int)) = false := decide_eq_false (by omega)
        have HT := Lib.hid (show risesF 0 L = risesF (prevN L (0 + 1)) (L.drop (0 + 1)) by
          rw [HFA.out, HP.out, decide_eq_true (by exact ⟨by simp only [prevN]; omega, by omega⟩)]; rfl)
        simp only [Nat.add_zero] at p0
        clear hx
        go_wp2_with fail
        go_quiet (fail)
        go_wp2_with fail
        go_roundw
        case rel => exact ⟨0 + 1, by omega, by go_num, HT.out, below_drewN HB.out _⟩
        case measure => simp [intOf]; omega
      · obtain ⟨k1, hk1⟩ : ∃ k1, k = k1 + 1 := ⟨k - 1, by omega⟩
        obtain ⟨y, hy⟩ : ∃ y, L[k1]? = some y := ⟨_, List.getElem?_eq_getElem (by rw [HN.out]; omega)⟩
        obtain ⟨b', off', e', hb', q0⟩ := HU.out.later HB.out k1 y hy
        cases e'
        have HY := Lib.hid (show prevN L k = y by rw [hk1]; exact prevN_at hy)
        have e1 : (k : Int) - 1 = (k1 : Int) := by omega
        have j0 : (0 : Int) ≤ (k1 : Int) := by omega
        have j1 : (k1 : Int) < (n : Int) := by omega
        have j2 : decide (0 < k) = true := decide_eq_true (by omega)
        have HK1 := Lib.hid hk1
        clear hk1 hk0 hx hy
        by_cases hle : x ≤ y
        · have g3 : decide ((x : Int) ≤ (y : Int)) = true := decide_eq_true (by omega)
          have HT := Lib.hid (show risesF 0 L = false by
            rw [HFA.out, decide_eq_false (by rw [HY.out]; omega)]; rfl)
          go_wp2_with fail
          go_quiet (fail)
          go_wp2_with fail
          go_ret
          exact ⟨by rw [HT.out]; first | rfl | simp, below_drewN HB.out _⟩
        · have g3 : decide ((x : Int) ≤ (y : Int)) = false := decide_eq_false (by omega)
          have HT := Lib.hid (show risesF 0 L = risesF (prevN L (k + 1)) (L.drop (k + 1)) by
            rw [HFA.out, HP.out, decide_eq_true (by rw [HY.out]; omega)]; rfl)
          go_wp2_with fail
          go_quiet (fail)
          go_wp2_with fail
          go_roundw
          case rel => exact ⟨k + 1, by omega, by go_num, HT.out, below_drewN HB.out _⟩
          case measure => simp [intOf]; omega
    · have HT := Lib.hid (show risesF 0 L = true by rw [HFB.out, List.drop_eq_nil_of_le (by rw [HN.out]; omega)]; rfl)
      go_wp2_with fail
      go_ret
      exact ⟨by rw [HT.out]; first | rfl | simp, HB.out⟩
end Go.Proofs.Ytoabpakichjieaa
