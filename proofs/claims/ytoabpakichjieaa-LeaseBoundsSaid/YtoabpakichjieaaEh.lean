/- Whether one number in quarters is at most another one. -/
import Derived.Test.YtoabpakichjieaaEg
namespace Go.Proofs.Ytoabpakichjieaa
open Go.RowKit

/-- Whether one number in quarters is at most another one. -/
theorem qt_le {m n a0 a1 a2 a3 b0 b1 b2 b3 : Nat} (ha : Qt m a0 a1 a2 a3) (hb : Qt n b0 b1 b2 b3) :
    decide (m ≤ n) = if a3 = b3 then (if a2 = b2 then (if a1 = b1 then (if a0 = b0 then true else decide (a0 < b0)) else decide (a1 < b1)) else decide (a2 < b2)) else decide (a3 < b3) := by
  obtain ⟨i0, i1, i2, i3⟩ := ha
  obtain ⟨k0, k1, k2, k3⟩ := hb
  have x0 : a0 < 4294967296 := by rw [← i0]; exact Nat.mod_lt _ (by decide)
  have x1 : a1 < 4294967296 := by rw [← i1]; exact Nat.mod_lt _ (by decide)
  have x2 : a2 < 4294967296 := by rw [← i2]; exact Nat.mod_lt _ (by decide)
  have y0 : b0 < 4294967296 := by rw [← k0]; exact Nat.mod_lt _ (by decide)
  have y1 : b1 < 4294967296 := by rw [← k1]; exact Nat.mod_lt _ (by decide)
  have y2 : b2 < 4294967296 := by rw [← k2]; exact Nat.mod_lt _ (by decide)
  have e1 := of_quarters (n := m)
  have e2 := of_quarters (n := n)
  rw [i0, i1, i2, i3] at e1
  rw [k0, k1, k2, k3] at e2
  clear i0 i1 i2 i3 k0 k1 k2 k3
  by_cases c3 : a3 = b3
  · rw [if_pos c3]
    by_cases c2 : a2 = b2
    · rw [if_pos c2]
      by_cases c1 : a1 = b1
      · rw [if_pos c1]
        by_cases c0 : a0 = b0
        · rw [if_pos c0]; exact decide_eq_true (by omega)
        · rw [if_neg c0, decide_eq_decide]; omega
      · rw [if_neg c1, decide_eq_decide]; omega
    · rw [if_neg c2, decide_eq_decide]; omega
  · rw [if_neg c3, decide_eq_decide]; omega
set_option maxHeartbeats 2000000 in
theorem rMost_any (m n a0 a1 a2 a3 b0 b1 b2 b3 : Nat) (c : Bool) (ha : Qt m a0 a1 a2 a3) (hb : Qt n b0 b1 b2 b3) (hc : decide (m ≤ n) = c) (w : World) :
    Calls Try.prog 21 #[hfV a0 a1 a2 a3, hfV b0 b1 b2 b3] w fun e w' => e = .returned (.bool c) ∧ Below w.heap.size w w' := by
  rw [qt_le ha hb] at hc
  clear ha hb
  have HB := Lib.hid (show Below w.heap.size w ((w.alloc (.cells #[.int .u64 a0, .int .u64 a1, .int .u64 a2, .int .u64 a3] 50)).alloc (.cells #[.int .u64 b0, .int .u64 b1, .int .u64 b2, .int .u64 b3] 50)) by go_grown)
  by_cases e3 : a3 = b3
  · rw [if_pos e3] at hc
    subst e3
    by_cases e2 : a2 = b2
    · rw [if_pos e2] at hc
      subst e2
      by_cases e1 : a1 = b1
      · rw [if_pos e1] at hc
        subst e1
        by_cases e0 : a0 = b0
        · rw [if_pos e0] at hc
          subst e0
          subst hc
          go_enter Try.func21, Try.ntmps21
          go_wp2_with fail
          refine wp_loop_rounds 5 ?_
          rw [rounds_succ]
          go_wp2_with fail
          go_quiet (fail)
          go_wp2_with fail
          rw [rounds_succ]
          go_wp2_with fail
          go_quiet (fail)
          go_wp2_with fail
          rw [rounds_succ]
          go_wp2_with fail
          go_quiet (fail)
          go_wp2_with fail
          rw [rounds_succ]
          go_wp2_with fail
          go_quiet (fail)
          go_wp2_with fail
          rw [rounds_succ]
          go_wp2_with fail
          go_ret
          exact ⟨by first | rfl | simp, by repeat (first | exact HB.out | refine below_drewN ?_ _)⟩
        · rw [if_neg e0] at hc
          have g1 : ((a0 : Int) != (b0 : Int)) = true := by simp; omega
          have g2 : ((a0 : Int) == (b0 : Int)) = false := by simp; omega
          by_cases hlt : a0 < b0
          · rw [decide_eq_true hlt] at hc
            subst hc
            have g3 : (a0 : Int) < (b0 : Int) := by omega
            go_enter Try.func21, Try.ntmps21
            go_wp2_with fail
            refine wp_loop_rounds 4 ?_
            rw [rounds_succ]
            go_wp2_with fail
            go_quiet (fail)
            go_wp2_with fail
            rw [rounds_succ]
            go_wp2_with fail
            go_quiet (fail)
            go_wp2_with fail
            rw [rounds_succ]
            go_wp2_with fail
            go_quiet (fail)
            go_wp2_with fail
            rw [rounds_succ]
            go_wp2_with fail
            go_quiet (fail)
            go_wp2_with fail
            go_quiet (fail)
            go_wp2_with fail
            go_ret
            exact ⟨by first | rfl | simp, by repeat (first | exact HB.out | refine below_drewN ?_ _)⟩
          · rw [decide_eq_false hlt] at hc
            subst hc
            have g3 : ¬ (a0 : Int) < (b0 : Int) := by omega
            go_enter Try.func21, Try.ntmps21
            go_wp2_with fail
            refine wp_loop_rounds 4 ?_
            rw [rounds_succ]
            go_wp2_with fail
            go_quiet (fail)
            go_wp2_with fail
            rw [rounds_succ]
            go_wp2_with fail
            go_quiet (fail)
            go_wp2_with fail
            rw [rounds_succ]
            go_wp2_with fail
            go_quiet (fail)
            go_wp2_with fail
            rw [rounds_succ]
            go_wp2_with fail
            go_quiet (fail)
            go_wp2_with fail
            go_quiet (fail)
            go_wp2_with fail
            go_ret
            exact ⟨by first | rfl | simp, by repeat (first | exact HB.out | refine below_drewN ?_ _)⟩
      · rw [if_neg e1] at hc
        have g1 : ((a1 : Int) != (b1 : Int)) = true := by simp; omega
        have g2 : ((a1 : Int) == (b1 : Int)) = false := by simp; omega
        by_cases hlt : a1 < b1
        · rw [decide_eq_true hlt] at hc
          subst hc
          have g3 : (a1 : Int) < (b1 : Int) := by omega
          go_enter Try.func21, Try.ntmps21
          go_wp2_with fail
          refine wp_loop_rounds 3 ?_
          rw [rounds_succ]
          go_wp2_with fail
          go_quiet (fail)
          go_wp2_with fail
          rw [rounds_succ]
          go_wp2_with fail
          go_quiet (fail)
          go_wp2_with fail
          rw [rounds_succ]
          go_wp2_with fail
          go_quiet (fail)
          go_wp2_with fail
          go_quiet (fail)
          go_wp2_with fail
          go_ret
          exact ⟨by first | rfl | simp, by repeat (first | exact HB.out | refine below_drewN ?_ _)⟩
        · rw [decide_eq_false hlt] at hc
          subst hc
          have g3 : ¬ (a1 : Int) < (b1 : Int) := by omega
          go_enter Try.func21, Try.ntmps21
          go_wp2_with fail
          refine wp_loop_rounds 3 ?_
          rw [rounds_succ]
          go_wp2_with fail
          go_quiet (fail)
          go_wp2_with fail
          rw [rounds_succ]
          go_wp2_with fail
          go_quiet (fail)
          go_wp2_with fail
          rw [rounds_succ]
          go_wp2_with fail
          go_quiet (fail)
          go_wp2_with fail
          go_quiet (fail)
          go_wp2_with fail
          go_ret
          exact ⟨by first | rfl | simp, by repeat (first | exact HB.out | refine below_drewN ?_ _)⟩
    · rw [if_neg e2] at hc
      have g1 : ((a2 : Int) != (b2 : Int)) = true := by simp; omega
      have g2 : ((a2 : Int) == (b2 : Int)) = false := by simp; omega
      by_cases hlt : a2 < b2
      · rw [decide_eq_true hlt] at hc
        subst hc
        have g3 : (a2 : Int) < (b2 : Int) := by omega
        go_enter Try.func21, Try.ntmps21
        go_wp2_with fail
        refine wp_loop_rounds 2 ?_
        rw [rounds_succ]
        go_wp2_with fail
        go_quiet (fail)
        go_wp2_with fail
        rw [rounds_succ]
        go_wp2_with fail
        go_quiet (fail)
        go_wp2_with fail
        go_quiet (fail)
        go_wp2_with fail
        go_ret
        exact ⟨by first | rfl | simp, by repeat (first | exact HB.out | refine below_drewN ?_ _)⟩
      · rw [decide_eq_false hlt] at hc
        subst hc
        have g3 : ¬ (a2 : Int) < (b2 : Int) := by omega
        go_enter Try.func21, Try.ntmps21
        go_wp2_with fail
        refine wp_loop_rounds 2 ?_
        rw [rounds_succ]
        go_wp2_with fail
        go_quiet (fail)
        go_wp2_with fail
        rw [rounds_succ]
        go_wp2_with fail
        go_quiet (fail)
        go_wp2_with fail
        go_quiet (fail)
        go_wp2_with fail
        go_ret
        exact ⟨by first | rfl | simp, by repeat (first | exact HB.out | refine below_drewN ?_ _)⟩
  · rw [if_neg e3] at hc
    have g1 : ((a3 : Int) != (b3 : Int)) = true := by simp; omega
    have g2 : ((a3 : Int) == (b3 : Int)) = false := by simp; omega
    by_cases hlt : a3 < b3
    · rw [decide_eq_true hlt] at hc
      subst hc
      have g3 : (a3 : Int) < (b3 : Int) := by omega
      go_enter Try.func21, Try.ntmps21
      go_wp2_with fail
      refine wp_loop_rounds 1 ?_
      rw [rounds_succ]
      go_wp2_with fail
      go_quiet (fail)
      go_wp2_with fail
      go_quiet (fail)
      go_wp2_with fail
      go_ret
      exact ⟨by first | rfl | simp, by repeat (first | exact HB.out | refine below_drewN ?_ _)⟩
    · rw [decide_eq_false hlt] at hc
      subst hc
      have g3 : ¬ (a3 : Int) < (b3 : Int) := by omega
      go_enter Try.func21, Try.ntmps21
      go_wp2_with fail
      refine wp_loop_rounds 1 ?_
      rw [rounds_succ]
      go_wp2_with fail
      go_quiet (fail)
      go_wp2_with fail
      go_quiet (fail)
      go_wp2_with fail
      go_ret
      exact ⟨by first | rfl | simp, by repeat (first | exact HB.out | refine below_drewN ?_ _)⟩
end Go.Proofs.Ytoabpakichjieaa
