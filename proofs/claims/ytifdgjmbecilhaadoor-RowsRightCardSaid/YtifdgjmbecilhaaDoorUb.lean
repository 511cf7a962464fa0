/- Whether a text is ahead of another one: the document's. -/
import Derived.Test.YtifdgjmbecilhaaDoorRd
import Derived.Test.YtifdgjmbecilhaaDoorUa
import Derived.Deep.QuietTactic
import Derived.BigQuiet
namespace Go.Proofs.YtifdgjmbecilhaaDoor
open Go.RowKit

theorem lessL_at {a b : List UInt8} {k : Nat} {x y : UInt8} (hx : a[k]? = some x) (hy : b[k]? = some y) : lessL (a.drop k) (b.drop k) = if x = y then lessL (a.drop (k + 1)) (b.drop (k + 1)) else decide (x.toNat < y.toNat) := by
  obtain ⟨h1, rfl⟩ := List.getElem?_eq_some_iff.1 hx
  obtain ⟨h2, rfl⟩ := List.getElem?_eq_some_iff.1 hy
  rw [List.drop_eq_getElem_cons h1, List.drop_eq_getElem_cons h2, lessL]
theorem lessL_end {a b : List UInt8} {k : Nat} (ha : k ≤ a.length) (hb : k ≤ b.length) (h : a.length ≤ k ∨ b.length ≤ k) : lessL (a.drop k) (b.drop k) = decide (a.length < b.length) := by
  rcases Nat.lt_or_ge k b.length with h1 | h1
  · have h2 : a.length = k := by omega
    rw [List.drop_eq_nil_of_le (by omega), List.drop_eq_getElem_cons h1]
    simp only [lessL]; exact (decide_eq_true (by omega)).symm
  · rw [List.drop_eq_nil_of_le h1]
    have : lessL (a.drop k) [] = false := by cases a.drop k <;> rfl
    rw [this]; exact (decide_eq_false (by omega)).symm
set_option maxHeartbeats 1000000 in
theorem rLess_any (a b : ByteArray) (ha : a.size ≤ 140737488351232) (_ : b.size ≤ 140737488351232) (w : World) :
    Calls Tryd.prog 29 #[.string a, .string b] w fun e w' => e = .returned (.bool (lessB a b)) ∧ ∃ q, w' = w.drewN q := by
  obtain ⟨r, hr⟩ : ∃ r, lessB a b = r := ⟨_, rfl⟩
  rw [hr]
  have HR := Lib.hid hr
  have hal : a.data.toList.length = a.size := by simp
  have hbl : b.data.toList.length = b.size := by simp
  have HAL := Lib.hid hal
  have HBL := Lib.hid hbl
  clear hr hal hbl
  go_enter Tryd.func29, Tryd.ntmps29
  go_wp2_with fail
  go_loopw [5] (fun u wr => ∃ k q : Nat, k ≤ a.size ∧ k ≤ b.size ∧ u = .int .i64 k ∧ lessL (a.data.toList.drop k) (b.data.toList.drop k) = r ∧ wr = w.drewN q) (fun u _ => a.size - (intOf u).toNat)
  case atStart => exact ⟨0, 0, Nat.zero_le _, Nat.zero_le _, rfl, HR.out, rfl⟩
  case round =>
    obtain ⟨k, q, hk1, hk2, rfl, hl, hq⟩ := hrel
    have HL := Lib.hid hl
    have HQ := Lib.hid hq
    clear hl hq
    by_cases h1 : k < a.size
    · have g1 : (k : Int) < (a.size : Int) := by omega
      by_cases h2 : k < b.size
      · have g2 : (k : Int) < (b.size : Int) := by omega
        obtain ⟨x, hx⟩ : ∃ x, a.data.toList[k]? = some x := ⟨_, List.getElem?_eq_getElem (by rw [HAL.out]; exact h1)⟩
        obtain ⟨y, hy⟩ : ∃ y, b.data.toList[k]? = some y := ⟨_, List.getElem?_eq_getElem (by rw [HBL.out]; exact h2)⟩
        have ex : a[k] = x := by
          have := (List.getElem?_eq_some_iff.1 hx).2
          rw [← this]; simp; rfl
        have ey : b[k] = y := by
          have := (List.getElem?_eq_some_iff.1 hy).2
          rw [← this]; simp; rfl
        obtain ⟨x0, hx0, xa, xb⟩ : ∃ z : Int, (x.toNat : Int) = z ∧ 0 ≤ z ∧ z < 256 := ⟨_, rfl, by omega, by have := x.toNat_lt; omega⟩
        obtain ⟨y0, hy0, ya, yb⟩ : ∃ z : Int, (y.toNat : Int) = z ∧ 0 ≤ z ∧ z < 256 := ⟨_, rfl, by omega, by have := y.toNat_lt; omega⟩
        have f1 : (a[k].toNat : Int) = x0 := by rw [ex]; exact hx0
        have f2 : (b[k].toNat : Int) = y0 := by rw [ey]; exact hy0
        have HA := Lib.hid (HL.out.symm.trans (lessL_at hx hy))
        have HE := Lib.hid (show x = y ↔ x0 = y0 from ⟨fun e => by rw [← hx0, ← hy0, e], fun e => UInt8.toNat_inj.1 (by omega)⟩)
        have HD := Lib.hid (show decide (x.toNat < y.toNat) = decide (x0 < y0) by rw [decide_eq_decide]; omega)
        clear hx hy ex ey hx0 hy0
        by_cases he : x0 = y0
        · have HN := Lib.hid (show lessL (a.data.toList.drop (k + 1)) (b.data.toList.drop (k + 1)) = r by rw [HA.out, if_pos (HE.out.2 he)])
          subst he
          go_wp2_with fail
          go_quiet (fail)
          go_wp2_with fail
          go_roundw
          case rel => exact ⟨k + 1, q + nq, by omega, by omega, by go_num, HN.out, by rw [HQ.out, World.drewN_drewN]⟩
          case measure => simp [intOf]; omega
        · have HN := Lib.hid (show r = decide (x0 < y0) by rw [HA.out, if_neg (fun e => he (HE.out.1 e)), HD.out])
          have g3 : (x0 == y0) = false := by simpa using he
          go_wp2_with fail
          go_quiet (fail)
          go_wp2_with fail
          go_quiet (fail)
          go_wp2_with fail
          go_ret
          exact ⟨by rw [HN.out]; first | rfl | simp, _, by rw [HQ.out, World.drewN_drewN, World.drewN_drewN]⟩
      · have g2 : ¬ (k : Int) < (b.size : Int) := by omega
        have HN := Lib.hid (show r = decide ((a.size : Int) < (b.size : Int)) by rw [HL.out.symm.trans (lessL_end (by rw [HAL.out]; omega) (by rw [HBL.out]; omega) (.inr (by rw [HBL.out]; omega))), HAL.out, HBL.out, decide_eq_decide]; omega)
        go_wp2_with fail
        go_ret
        exact ⟨by rw [HN.out]; first | rfl | simp, _, HQ.out⟩
    · have g1 : ¬ (k : Int) < (a.size : Int) := by omega
      have HN := Lib.hid (show r = decide ((a.size : Int) < (b.size : Int)) by rw [HL.out.symm.trans (lessL_end (by rw [HAL.out]; omega) (by rw [HBL.out]; omega) (.inl (by rw [HAL.out]; omega))), HAL.out, HBL.out, decide_eq_decide]; omega)
      go_wp2_with fail
      go_ret
      exact ⟨by rw [HN.out]; first | rfl | simp, _, HQ.out⟩
end Go.Proofs.YtifdgjmbecilhaaDoor
