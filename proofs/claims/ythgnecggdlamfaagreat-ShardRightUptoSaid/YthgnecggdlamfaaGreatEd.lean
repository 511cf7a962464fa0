/- Equal of rows, locks, ended ones; EqualFunc of open ones; Same: the program's. -/
import Derived.Test.YthgnecggdlamfaaGreatTn
import Derived.Test.YthgnecggdlamfaaGreatYr
import Derived.BigQuiet
namespace Go.Proofs.YthgnecggdlamfaaGreat
open Go.RowKit Go.Maps

set_option maxRecDepth 100000 in
set_option maxHeartbeats 4000000 in
theorem equalRo_any (n c m d : Nat) (a b : Option Addr) (P Q : List Ro) (hn : P.length = n) (hl : n ≤ 140737488351232) (hm : Q.length = m) (hl2 : m ≤ 140737488351232) (w : World) (hP : Ros w a P) (hQ : Ros w b Q) :
    Calls Tryz.prog 29 #[.slice a n c, .slice b m d] w fun e w' => e = .returned (.bool (samL samRo P Q)) ∧ Below w.heap.size w w' := by
  have HN := Lib.hid hn
  have HM := Lib.hid hm
  have HP := Lib.hid hP
  have HQ := Lib.hid hQ
  by_cases hnm : n = m
  case neg =>
    have HE := Lib.hid (samL_len samRo P Q (by rw [hn, hm]; exact hnm))
    have g := int_ne hnm
    have gn : ((n : Int) != (m : Int)) = true := by simp; omega
    clear hn hm hP hQ hnm
    go_enter Tryz.func29, Tryz.ntmps29
    go_wp2_with fail
    go_ret
    exact ⟨by rw [HE.out]; first | rfl | simp, Below.refl _ _⟩
  subst hnm
  obtain ⟨r, hr⟩ : ∃ r, samL samRo P Q = r := ⟨_, rfl⟩
  rw [hr]
  have HR := Lib.hid (show samL samRo (P.drop 0) (Q.drop 0) = r from hr)
  clear hn hm hP hQ hr
  go_enter Tryz.func29, Tryz.ntmps29
  go_wp2_with fail
  go_loopw [13] (fun u wr => ∃ k : Nat, k ≤ n ∧ u = .int .i64 k ∧ samL samRo (P.drop k) (Q.drop k) = r ∧ Below w.heap.size w wr) (fun u _ => n - (intOf u).toNat)
  case atStart => exact ⟨0, Nat.zero_le _, rfl, HR.out, Below.refl _ _⟩
  case round =>
    obtain ⟨k, hk, rfl, hf, hB⟩ := hrel
    have HF := Lib.hid hf
    have HB := Lib.hid hB
    clear hf
    by_cases hlt : k < n
    · obtain ⟨x, hx⟩ : ∃ x, P[k]? = some x := ⟨_, List.getElem?_eq_getElem (by rw [HN.out]; exact hlt)⟩
      obtain ⟨y, hy⟩ : ∃ y, Q[k]? = some y := ⟨_, List.getElem?_eq_getElem (by rw [HM.out]; exact hlt)⟩
      have i0 : (0 : Int) ≤ (k : Int) := by omega
      have i1 : (k : Int) < (n : Int) := by omega
      have HA := Lib.hid (HF.out.symm.trans (samL_at hx hy))
      obtain ⟨b1, off, rfl, _, p0, p1, p2⟩ := Ros.cells (HP.out.later hB) hx
      obtain ⟨b2, off2, rfl, _, q0, q1, q2⟩ := Ros.cells (HQ.out.later hB) hy
      obtain ⟨xk, xv, xn⟩ := x
      obtain ⟨yk, yv, yn⟩ := y
      simp only at p0 p1 p2 q0 q1 q2 HA
      clear hx hy hB
      by_cases h1 : xk = yk
      case neg =>
        obtain rfl : r = false := by rw [HA.out]; simp [samRo, h1]
        have g1 := ba_ne h1
        have g2 := ba_ne' h1
        go_wp2_with fail
        go_quiet (fail)
        go_wp2_with fail
        go_ret
        exact ⟨by first | rfl | simp, below_drewN HB.out _⟩
      subst h1
      by_cases h2 : xv = yv
      case neg =>
        obtain rfl : r = false := by rw [HA.out]; simp [samRo, h2]
        have g1 := ba_ne h2
        have g2 := ba_ne' h2
        go_wp2_with fail
        go_quiet (fail)
        go_wp2_with fail
        go_ret
        exact ⟨by first | rfl | simp, below_drewN HB.out _⟩
      subst h2
      by_cases h3 : xn = yn
      case neg =>
        obtain rfl : r = false := by rw [HA.out]; simp [samRo, h3]
        have g1 : ((xn : Int) == (yn : Int)) = false := by simp; omega
        have g2 : ((xn : Int) != (yn : Int)) = true := by simp; omega
        go_wp2_with fail
        go_quiet (fail)
        go_wp2_with fail
        go_ret
        exact ⟨by first | rfl | simp, below_drewN HB.out _⟩
      subst h3
      have HT := Lib.hid (show samL samRo (P.drop (k + 1)) (Q.drop (k + 1)) = r by rw [HA.out]; simp [samRo])
      go_wp2_with fail
      go_quiet (fail)
      go_wp2_with fail
      go_roundw
      case rel => exact ⟨k + 1, by omega, by go_num, HT.out, below_drewN HB.out _⟩
      case measure => simp [intOf]; omega
    · have i1 : ¬ (k : Int) < (n : Int) := by omega
      obtain rfl : r = true := by rw [← HF.out, List.drop_eq_nil_of_le (by rw [HN.out]; omega), List.drop_eq_nil_of_le (by rw [HM.out]; omega)]; rfl
      go_wp2_with fail
      go_ret
      exact ⟨by first | rfl | simp, HB.out⟩
set_option maxRecDepth 100000 in
set_option maxHeartbeats 4000000 in
theorem equalHo_any (n c m d : Nat) (a b : Option Addr) (P Q : List Ho) (hn : P.length = n) (hl : n ≤ 140737488351232) (hm : Q.length = m) (hl2 : m ≤ 140737488351232) (w : World) (hP : Hos w a P) (hQ : Hos w b Q) :
    Calls Tryz.prog 30 #[.slice a n c, .slice b m d] w fun e w' => e = .returned (.bool (samL samHo P Q)) ∧ Below w.heap.size w w' := by
  have HN := Lib.hid hn
  have HM := Lib.hid hm
  have HP := Lib.hid hP
  have HQ := Lib.hid hQ
  by_cases hnm : n = m
  case neg =>
    have HE := Lib.hid (samL_len samHo P Q (by rw [hn, hm]; exact hnm))
    have g := int_ne hnm
    have gn : ((n : Int) != (m : Int)) = true := by simp; omega
    clear hn hm hP hQ hnm
    go_enter Tryz.func30, Tryz.ntmps30
    go_wp2_with fail
    go_ret
    exact ⟨by rw [HE.out]; first | rfl | simp, Below.refl _ _⟩
  subst hnm
  obtain ⟨r, hr⟩ : ∃ r, samL samHo P Q = r := ⟨_, rfl⟩
  rw [hr]
  have HR := Lib.hid (show samL samHo (P.drop 0) (Q.drop 0) = r from hr)
  clear hn hm hP hQ hr
  go_enter Tryz.func30, Tryz.ntmps30
  go_wp2_with fail
  go_loopw [13] (fun u wr => ∃ k : Nat, k ≤ n ∧ u = .int .i64 k ∧ samL samHo (P.drop k) (Q.drop k) = r ∧ Below w.heap.size w wr) (fun u _ => n - (intOf u).toNat)
  case atStart => exact ⟨0, Nat.zero_le _, rfl, HR.out, Below.refl _ _⟩
  case round =>
    obtain ⟨k, hk, rfl, hf, hB⟩ := hrel
    have HF := Lib.hid hf
    have HB := Lib.hid hB
    clear hf
    by_cases hlt : k < n
    · obtain ⟨x, hx⟩ : ∃ x, P[k]? = some x := ⟨_, List.getElem?_eq_getElem (by rw [HN.out]; exact hlt)⟩
      obtain ⟨y, hy⟩ : ∃ y, Q[k]? = some y := ⟨_, List.getElem?_eq_getElem (by rw [HM.out]; exact hlt)⟩
      have i0 : (0 : Int) ≤ (k : Int) := by omega
      have i1 : (k : Int) < (n : Int) := by omega
      have HA := Lib.hid (HF.out.symm.trans (samL_at hx hy))
      obtain ⟨b1, off, rfl, _, p0, p1, p2, p3⟩ := Hos.cells (HP.out.later hB) hx
      obtain ⟨b2, off2, rfl, _, q0, q1, q2, q3⟩ := Hos.cells (HQ.out.later hB) hy
      obtain ⟨xk, ⟨xa, xi⟩, xg⟩ := x
      obtain ⟨yk, ⟨ya, yi⟩, yg⟩ := y
      simp only at p0 p1 p2 p3 q0 q1 q2 q3 HA
      clear hx hy hB
      by_cases h1 : xk = yk
      case neg =>
        obtain rfl : r = false := by rw [HA.out]; simp [samHo, h1]
        have g1 := ba_ne h1
        have g2 := ba_ne' h1
        go_wp2_with fail
        go_quiet (fail)
        go_wp2_with fail
        go_ret
        exact ⟨by first | rfl | simp, below_drewN HB.out _⟩
      subst h1
      by_cases h2 : xa = ya
      case neg =>
        obtain rfl : r = false := by rw [HA.out]; simp [samHo, h2]
        have g1 : ((xa : Int) == (ya : Int)) = false := by simp; omega
        have g2 : ((xa : Int) != (ya : Int)) = true := by simp; omega
        go_wp2_with fail
        go_quiet (fail)
        go_wp2_with fail
        go_ret
        exact ⟨by first | rfl | simp, below_drewN HB.out _⟩
      subst h2
      by_cases h3 : xi = yi
      case neg =>
        obtain rfl : r = false := by rw [HA.out]; simp [samHo, h3]
        have g1 : ((xi : Int) == (yi : Int)) = false := by simp; omega
        have g2 : ((xi : Int) != (yi : Int)) = true := by simp; omega
        go_wp2_with fail
        go_quiet (fail)
        go_wp2_with fail
        go_ret
        exact ⟨by first | rfl | simp, below_drewN HB.out _⟩
      subst h3
      by_cases h4 : xg = yg
      case neg =>
        have g1 : (xg == yg) = false := by simpa using h4
        obtain rfl : r = false := by rw [HA.out]; simp [samHo, g1]
        go_wp2_with fail
        go_quiet (fail)
        go_wp2_with fail
        go_ret
        exact ⟨by first | rfl | simp, below_drewN HB.out _⟩
      subst h4
      have HT := Lib.hid (show samL samHo (P.drop (k + 1)) (Q.drop (k + 1)) = r by rw [HA.out]; simp [samHo])
      go_wp2_with fail
      go_quiet (fail)
      go_wp2_with fail
      go_roundw
      case rel => exact ⟨k + 1, by omega, by go_num, HT.out, below_drewN HB.out _⟩
      case measure => simp [intOf]; omega
    · have i1 : ¬ (k : Int) < (n : Int) := by omega
      obtain rfl : r = true := by rw [← HF.out, List.drop_eq_nil_of_le (by rw [HN.out]; omega), List.drop_eq_nil_of_le (by rw [HM.out]; omega)]; rfl
      go_wp2_with fail
      go_ret
      exact ⟨by first | rfl | simp, HB.out⟩
set_option maxRecDepth 100000 in
set_option maxHeartbeats 4000000 in
theorem equalDn_any (n c m d : Nat) (a b : Option Addr) (P Q : List Sdn) (hn : P.length = n) (hl : n ≤ 140737488351232) (hm : Q.length = m) (hl2 : m ≤ 140737488351232) (w : World) (hP : Rw 3 sdnC w a P) (hQ : Rw 3 sdnC w b Q) :
    Calls Tryz.prog 32 #[.slice a n c, .slice b m d] w fun e w' => e = .returned (.bool (samL samDn P Q)) ∧ Below w.heap.size w w' := by
  have HN := Lib.hid hn
  have HM := Lib.hid hm
  have HP := Lib.hid hP
  have HQ := Lib.hid hQ
  by_cases hnm : n = m
  case neg =>
    have HE := Lib.hid (samL_len samDn P Q (by rw [hn, hm]; exact hnm))
    have g := int_ne hnm
    have gn : ((n : Int) != (m : Int)) = true := by simp; omega
    clear hn hm hP hQ hnm
    go_enter Tryz.func32, Tryz.ntmps32
    go_wp2_with fail
    go_ret
    exact ⟨by rw [HE.out]; first | rfl | simp, Below.refl _ _⟩
  subst hnm
  obtain ⟨r, hr⟩ : ∃ r, samL samDn P Q = r := ⟨_, rfl⟩
  rw [hr]
  have HR := Lib.hid (show samL samDn (P.drop 0) (Q.drop 0) = r from hr)
  clear hn hm hP hQ hr
  go_enter Tryz.func32, Tryz.ntmps32
  go_wp2_with fail
  go_loopw [13] (fun u wr => ∃ k : Nat, k ≤ n ∧ u = .int .i64 k ∧ samL samDn (P.drop k) (Q.drop k) = r ∧ Below w.heap.size w wr) (fun u _ => n - (intOf u).toNat)
  case atStart => exact ⟨0, Nat.zero_le _, rfl, HR.out, Below.refl _ _⟩
  case round =>
    obtain ⟨k, hk, rfl, hf, hB⟩ := hrel
    have HF := Lib.hid hf
    have HB := Lib.hid hB
    clear hf
    by_cases hlt : k < n
    · obtain ⟨x, hx⟩ : ∃ x, P[k]? = some x := ⟨_, List.getElem?_eq_getElem (by rw [HN.out]; exact hlt)⟩
      obtain ⟨y, hy⟩ : ∃ y, Q[k]? = some y := ⟨_, List.getElem?_eq_getElem (by rw [HM.out]; exact hlt)⟩
      have i0 : (0 : Int) ≤ (k : Int) := by omega
      have i1 : (k : Int) < (n : Int) := by omega
      have HA := Lib.hid (HF.out.symm.trans (samL_at hx hy))
      obtain ⟨b1, off, rfl, _, p0, p1, p2⟩ := Sdn.cells (HP.out.later hB) hx
      obtain ⟨b2, off2, rfl, _, q0, q1, q2⟩ := Sdn.cells (HQ.out.later hB) hy
      obtain ⟨⟨xa, xi⟩, xg⟩ := x
      obtain ⟨⟨ya, yi⟩, yg⟩ := y
      simp only at p0 p1 p2 q0 q1 q2 HA
      clear hx hy hB
      by_cases h1 : xa = ya
      case neg =>
        obtain rfl : r = false := by rw [HA.out]; simp [samDn, h1]
        have g1 : ((xa : Int) == (ya : Int)) = false := by simp; omega
        have g2 : ((xa : Int) != (ya : Int)) = true := by simp; omega
        go_wp2_with fail
        go_quiet (fail)
        go_wp2_with fail
        go_ret
        exact ⟨by first | rfl | simp, below_drewN HB.out _⟩
      subst h1
      by_cases h2 : xi = yi
      case neg =>
        obtain rfl : r = false := by rw [HA.out]; simp [samDn, h2]
        have g1 : ((xi : Int) == (yi : Int)) = false := by simp; omega
        have g2 : ((xi : Int) != (yi : Int)) = true := by simp; omega
        go_wp2_with fail
        go_quiet (fail)
        go_wp2_with fail
        go_ret
        exact ⟨by first | rfl | simp, below_drewN HB.out _⟩
      subst h2
      by_cases h3 : xg = yg
      case neg =>
        have g1 : (xg == yg) = false := by simpa using h3
        obtain rfl : r = false := by rw [HA.out]; simp [samDn, g1]
        go_wp2_with fail
        go_quiet (fail)
        go_wp2_with fail
        go_ret
        exact ⟨by first | rfl | simp, below_drewN HB.out _⟩
      subst h3
      have HT := Lib.hid (show samL samDn (P.drop (k + 1)) (Q.drop (k + 1)) = r by rw [HA.out]; simp [samDn])
      go_wp2_with fail
      go_quiet (fail)
      go_wp2_with fail
      go_roundw
      case rel => exact ⟨k + 1, by omega, by go_num, HT.out, below_drewN HB.out _⟩
      case measure => simp [intOf]; omega
    · have i1 : ¬ (k : Int) < (n : Int) := by omega
      obtain rfl : r = true := by rw [← HF.out, List.drop_eq_nil_of_le (by rw [HN.out]; omega), List.drop_eq_nil_of_le (by rw [HM.out]; omega)]; rfl
      go_wp2_with fail
      go_ret
      exact ⟨by first | rfl | simp, HB.out⟩
end Go.Proofs.YthgnecggdlamfaaGreat
