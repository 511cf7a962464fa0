/- What is in the way, who has a lock: the document's. -/
import Derived.Test.YtfidgnhinllhlaaVc
namespace Go.Proofs.Ytfidgnhinllhlaa
open Go.RowKit

set_option maxHeartbeats 4000000 in
theorem rWay_any (h : Ho) (t : Tx) (key : ByteArray) (wr : Bool) (w : World) :
    Calls Try.prog 29 #[hoV h, txV t, .string key, .bool wr] w fun e w' => e = .returned (.bool (inW h t key wr)) ∧ Below w.heap.size w w' := by
  obtain ⟨hk, ⟨ha, hi⟩, hw⟩ := h
  obtain ⟨ta, ti⟩ := t
  obtain ⟨r, hr⟩ : ∃ r, inW ⟨hk, ⟨ha, hi⟩, hw⟩ ⟨ta, ti⟩ key wr = r := ⟨_, rfl⟩
  rw [hr]
  have HW := Lib.hid (show Below w.heap.size w ((w.alloc (.cells #[.string hk, .int .u64 (ha : Nat), .int .u64 (hi : Nat), .bool hw] 45)).alloc (.cells #[.int .u64 (ta : Nat), .int .u64 (ti : Nat)] 25)) by go_grown)
  by_cases h1 : hk = key
  case neg =>
    obtain rfl : r = false := by rw [← hr]; simp [inW, h1]
    have g1 := ba_ne h1
    have g2 := ba_ne' h1
    clear hr
    go_enter Try.func29, Try.ntmps29
    go_wp2_with fail
    go_ret
    exact ⟨by first | rfl | simp, HW.out⟩
  subst h1
  by_cases h2 : (⟨ha, hi⟩ : Tx) = ⟨ta, ti⟩
  · cases h2
    obtain rfl : r = false := by rw [← hr]; simp [inW]
    clear hr
    go_enter Try.func29, Try.ntmps29
    go_wp2_with fail
    go_ret
    exact ⟨by first | rfl | simp, HW.out⟩
  obtain rfl : r = (hw || wr) := by rw [← hr]; simp [inW, h2]
  clear hr
  rcases tx_ne h2 with g | ⟨rfl, g⟩
  · cases hw
    · go_enter Try.func29, Try.ntmps29
      go_wp2_with fail
      go_ret
      exact ⟨by first | rfl | simp, HW.out⟩
    · go_enter Try.func29, Try.ntmps29
      go_wp2_with fail
      go_ret
      exact ⟨by first | rfl | simp, HW.out⟩
  · cases hw
    · go_enter Try.func29, Try.ntmps29
      go_wp2_with fail
      go_ret
      exact ⟨by first | rfl | simp, HW.out⟩
    · go_enter Try.func29, Try.ntmps29
      go_wp2_with fail
      go_ret
      exact ⟨by first | rfl | simp, HW.out⟩
theorem hasH_at {t : Tx} {key : ByteArray} {wr : Bool} {L : List Ho} {k : Nat} {x : Ho} (hx : L[k]? = some x) : hasH t key wr (L.drop k) = ((decide (x.t = t) && (decide (x.key = key) && (x.wr || !wr))) || hasH t key wr (L.drop (k + 1))) := by
  obtain ⟨hk, rfl⟩ := List.getElem?_eq_some_iff.1 hx
  rw [List.drop_eq_getElem_cons hk]; rfl
set_option maxHeartbeats 4000000 in
theorem rHas_any (n c : Nat) (a : Option Addr) (L : List Ho) (t : Tx) (key : ByteArray) (wb : Bool) (hn : L.length = n) (hl : n ≤ 140737488351232) (w : World) (hM : Hos w a L) :
    Calls Try.prog 17 #[.slice a n c, txV t, .string key, .bool wb] w fun e w' => e = .returned (.bool (hasH t key wb L)) ∧ Below w.heap.size w w' := by
  obtain ⟨ta, ti⟩ := t
  obtain ⟨r, hr⟩ : ∃ r, hasH ⟨ta, ti⟩ key wb L = r := ⟨_, rfl⟩
  rw [hr]
  have HN := Lib.hid hn
  have HR := Lib.hid (show hasH ⟨ta, ti⟩ key wb (L.drop 0) = r from hr)
  obtain ⟨W, hW⟩ : ∃ W, w.alloc (.cells #[.int .u64 (ta : Nat), .int .u64 (ti : Nat)] 25) = W := ⟨_, rfl⟩
  obtain ⟨hB, hX⟩ := txbox hW
  have HM := Lib.hid (hM.later hB)
  have HB0 := Lib.hid hB
  obtain ⟨x0, hx0⟩ : ∃ x, w.heap.size = x := ⟨_, rfl⟩
  rw [hx0] at hX
  have HX := Lib.hid hX
  have HW := Lib.hid hW
  have HX0 := Lib.hid hx0
  clear hn hM hr hW hB hX hx0
  go_enter Try.func17, Try.ntmps17
  go_wp2_with fail
  rw [HW.out, HX0.out]
  go_loopw [9] (fun u wq => ∃ k : Nat, k ≤ n ∧ u = .int .i64 k ∧ hasH ⟨ta, ti⟩ key wb (L.drop k) = r ∧ Below W.heap.size W wq) (fun u _ => n - (intOf u).toNat)
  case atStart => exact ⟨0, Nat.zero_le _, rfl, HR.out, Below.refl _ _⟩
  case round =>
    obtain ⟨k, hk, rfl, hf, hB⟩ := hrel
    have HF := Lib.hid hf
    have HB := Lib.hid hB
    clear hf
    by_cases hlt : k < n
    · obtain ⟨x, hx⟩ : ∃ x, L[k]? = some x := ⟨_, List.getElem?_eq_getElem (by rw [HN.out]; exact hlt)⟩
      have i0 : (0 : Int) ≤ (k : Int) := by omega
      have i1 : (k : Int) < (n : Int) := by omega
      have HA := Lib.hid (HF.out.symm.trans (hasH_at (t := ⟨ta, ti⟩) (key := key) (wr := wb) hx))
      obtain ⟨b, off, rfl, hb, p0, p1, p2, p3⟩ := Hos.cells (HM.out.later hB) hx
      obtain ⟨_, q0, q1⟩ := HX.out.later hB
      obtain ⟨xk, ⟨xa, xi⟩, xw⟩ := x
      simp only at p0 p1 p2 p3 HA q0 q1
      clear hx hB
      by_cases he : (⟨xa, xi⟩ : Tx) = ⟨ta, ti⟩
      · cases he
        by_cases he2 : xk = key
        · subst he2
          cases xw
          · cases wb
            · obtain rfl : r = true := by rw [HA.out]; simp
              go_wp2_with fail
              go_quiet (fail)
              go_wp2_with fail
              go_ret
              exact ⟨by first | rfl | simp, below_drewN (HB0.out.trans (HB.out.mono HB0.out.size)) _⟩
            · have HN2 := Lib.hid (show hasH ⟨ta, ti⟩ xk true (L.drop (k + 1)) = r by rw [HA.out]; simp)
              go_wp2_with fail
              go_quiet (fail)
              go_wp2_with fail
              go_roundw
              case rel => exact ⟨k + 1, by omega, by go_num, HN2.out, below_drewN HB.out _⟩
              case measure => simp [intOf]; omega
          · obtain rfl : r = true := by rw [HA.out]; simp
            go_wp2_with fail
            go_quiet (fail)
            go_wp2_with fail
            go_ret
            exact ⟨by first | rfl | simp, below_drewN (HB0.out.trans (HB.out.mono HB0.out.size)) _⟩
        · have g1 := ba_ne he2
          have g2 := ba_ne' he2
          have HN2 := Lib.hid (show hasH ⟨ta, ti⟩ key wb (L.drop (k + 1)) = r by rw [HA.out]; simp [he2])
          go_wp2_with fail
          go_quiet (fail)
          go_wp2_with fail
          go_roundw
          case rel => exact ⟨k + 1, by omega, by go_num, HN2.out, below_drewN HB.out _⟩
          case measure => simp [intOf]; omega
      · have HN2 := Lib.hid (show hasH ⟨ta, ti⟩ key wb (L.drop (k + 1)) = r by rw [HA.out, decide_eq_false he]; rfl)
        rcases tx_ne he with g | ⟨rfl, g⟩
        · go_wp2_with fail
          go_quiet (fail)
          go_wp2_with fail
          go_roundw
          case rel => exact ⟨k + 1, by omega, by go_num, HN2.out, below_drewN HB.out _⟩
          case measure => simp [intOf]; omega
        · go_wp2_with fail
          go_quiet (fail)
          go_wp2_with fail
          go_roundw
          case rel => exact ⟨k + 1, by omega, by go_num, HN2.out, below_drewN HB.out _⟩
          case measure => simp [intOf]; omega
    · have i1 : ¬ (k : Int) < (n : Int) := by omega
      obtain rfl : r = false := by rw [← HF.out, List.drop_eq_nil_of_le (by rw [HN.out]; omega)]; rfl
      clear hB
      go_wp2_with fail
      go_ret
      exact ⟨by first | rfl | simp, HB0.out.trans (HB.out.mono HB0.out.size)⟩
end Go.Proofs.Ytfidgnhinllhlaa
