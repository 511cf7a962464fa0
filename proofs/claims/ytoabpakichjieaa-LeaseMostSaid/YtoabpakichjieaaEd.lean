/- The program's products in two halves: times, plus, below, Within. -/
import Derived.Test.YtoabpakichjieaaEc
import Derived.Test.YtoabpakichjieaaGxa
namespace Go.Proofs.Ytoabpakichjieaa
open Go.RowKit

/-- A number below 2 to the 128th in two halves, the upper one first. -/
@[reducible] def wdV (h l : Nat) : Value := .agg #[.int .u64 (h : Nat), .int .u64 (l : Nat)]
set_option maxHeartbeats 1000000 in
theorem times_any (a b h l : Nat) (ha : a < 18446744073709551616) (hb : b < 18446744073709551616) (hh : a * b / 18446744073709551616 = h) (hl : a * b % 18446744073709551616 = l) (w : World) :
    Calls Try.prog 18 #[.int .u64 a, .int .u64 b] w fun e w' => e = .returned (wdV h l) ∧ Below w.heap.size w w' := by
  have HH := Lib.hid hh
  have HL := Lib.hid hl
  clear hh hl
  go_enter Try.func18, Try.ntmps18
  go_wp2_with fail
  refine (mul64_any a b ha hb _).mono ?_
  rintro e w2 ⟨rfl, rfl⟩
  rw [HH.out, HL.out]
  go_wp2_with fail
  refine bodyPost_ret (v := wdV h l) (by simp [results, Try.results18, go_sem]) rfl ⟨rfl, ?_⟩
  go_grown
set_option maxHeartbeats 1000000 in
theorem plus_any (h l n h2 l2 : Nat) (_ : n < 18446744073709551616) (hc : h + (l + n) / 18446744073709551616 = h2) (hl2 : (l + n) % 18446744073709551616 = l2) (hb : h2 < 18446744073709551616) (w : World) :
    Calls Try.prog 23 #[wdV h l, .int .u64 n] w fun e w' => e = .returned (wdV h2 l2) ∧ Below w.heap.size w w' := by
  obtain ⟨c, hcc⟩ : ∃ c, (l + n) / 18446744073709551616 = c := ⟨_, rfl⟩
  rw [hcc] at hc
  have HC := Lib.hid hcc
  have HL := Lib.hid hl2
  have hb2 : (h : Int) + (c : Int) < 18446744073709551616 := by omega
  have HS := Lib.hid hc
  clear hc hl2 hcc
  go_enter Try.func23, Try.ntmps23
  go_wp2_with (simp only [add64_run]; rw [HC.out, HL.out])
  refine bodyPost_ret (v := wdV h2 l2) (by simp [results, Try.results23, go_sem, ← HS.out]) rfl ⟨rfl, ?_⟩
  go_grown
/-- How two pairs of numbers stand to each other. -/
def cmpI (ah al bh bl : Nat) : Int := if ah < bh then -1 else if bh < ah then 1 else if al < bl then -1 else if bl < al then 1 else 0
theorem cmpI_eq (ah al bh bl : Nat) : cmpI ah al bh bl = if ah = bh then cfD bl al else cfD bh ah := by
  unfold cmpI cfD
  by_cases h1 : ah < bh
  · rw [if_pos h1, if_neg (by omega), if_pos h1]
  · rw [if_neg h1]
    by_cases h2 : bh < ah
    · rw [if_pos h2, if_neg (by omega), if_neg h1, if_pos h2]
    · rw [if_neg h2, if_pos (show ah = bh by omega)]
theorem cfD_zero {x y : Nat} (h : x = y) : cfD y x = 0 := by unfold cfD; rw [if_neg (by omega), if_neg (by omega)]
theorem cfD_ne {x y : Nat} (h : x ≠ y) : cfD y x ≠ 0 := by
  unfold cfD
  by_cases h1 : x < y
  · rw [if_pos h1]; decide
  · rw [if_neg h1, if_pos (by omega)]; decide
set_option maxHeartbeats 2000000 in
theorem cmp2_any (x y ah al bh bl : Nat) (w : World) (a0 : w.cell? ⟨x, 0, none⟩ = some (.int .u64 ah)) (a1 : w.cell? ⟨x, 1, none⟩ = some (.int .u64 al)) (b0 : w.cell? ⟨y, 0, none⟩ = some (.int .u64 bh)) (b1 : w.cell? ⟨y, 1, none⟩ = some (.int .u64 bl)) :
    Calls Try.prog 37 #[.slice (some ⟨x, 0, none⟩) 2 2, .slice (some ⟨y, 0, none⟩) 2 2] w fun e w' => e = .returned (.int .i64 (cmpI ah al bh bl)) ∧ w = w' := by
  rw [cmpI_eq]
  have C1 := Lib.hid (compare_any ah bh w)
  have C2 := Lib.hid (compare_any al bl w)
  by_cases h : ah = bh
  · rw [if_pos h]
    have e1 := cfD_zero h
    rw [e1] at C1
    clear e1
    obtain ⟨r, hr⟩ : ∃ r, cfD bl al = r := ⟨_, rfl⟩
    rw [hr] at C2 ⊢
    clear hr h
    by_cases h2 : r = 0
    · subst h2
      go_enter Try.func37, Try.ntmps37
      go_wp2_with fail
      refine wp_loop_rounds 3 ?_
      iterate 3 (any_goals (rw [rounds_succ]; go_wp2_with (first | (go_at_call 41; (with_reducible refine C1.out.mono ?_); rintro e w2 ⟨rfl, rfl⟩) | (go_at_call 41; (with_reducible refine C2.out.mono ?_); rintro e w2 ⟨rfl, rfl⟩))))
      go_ret
      exact ⟨rfl, rfl⟩
    · have h3 : (r == 0) = false := by simpa using h2
      have h4 : (r != 0) = true := by simpa using h2
      go_enter Try.func37, Try.ntmps37
      go_wp2_with fail
      refine wp_loop_rounds 2 ?_
      iterate 2 (any_goals (rw [rounds_succ]; go_wp2_with (first | (go_at_call 41; (with_reducible refine C1.out.mono ?_); rintro e w2 ⟨rfl, rfl⟩) | (go_at_call 41; (with_reducible refine C2.out.mono ?_); rintro e w2 ⟨rfl, rfl⟩))))
      go_ret
      exact ⟨rfl, rfl⟩
  · rw [if_neg h]
    have h2 := cfD_ne h
    obtain ⟨r, hr⟩ : ∃ r, cfD bh ah = r := ⟨_, rfl⟩
    rw [hr] at C1 h2 ⊢
    clear hr h
    have h3 : (r == 0) = false := by simpa using h2
    have h4 : (r != 0) = true := by simpa using h2
    go_enter Try.func37, Try.ntmps37
    go_wp2_with fail
    refine wp_loop_rounds 1 ?_
    iterate 1 (any_goals (rw [rounds_succ]; go_wp2_with (first | (go_at_call 41; (with_reducible refine C1.out.mono ?_); rintro e w2 ⟨rfl, rfl⟩))))
    go_ret
    exact ⟨rfl, rfl⟩
theorem cmpI_lt (ah al bh bl : Nat) (ha : al < 18446744073709551616) (hb : bl < 18446744073709551616) : decide (cmpI ah al bh bl < 0) = decide (ah * 18446744073709551616 + al < bh * 18446744073709551616 + bl) := by
  unfold cmpI
  by_cases h1 : ah < bh
  · rw [if_pos h1]; simp; omega
  rw [if_neg h1]
  by_cases h2 : bh < ah
  · rw [if_pos h2]; simp; omega
  rw [if_neg h2]
  by_cases h3 : al < bl
  · rw [if_pos h3]; simp; omega
  rw [if_neg h3]
  by_cases h4 : bl < al
  · rw [if_pos h4]; simp; omega
  · rw [if_neg h4]; simp; omega
set_option maxHeartbeats 2000000 in
theorem below_any (ah al bh bl : Nat) (c : Bool) (ha : al < 18446744073709551616) (hb : bl < 18446744073709551616) (hc : decide (ah * 18446744073709551616 + al < bh * 18446744073709551616 + bl) = c) (w : World) :
    Calls Try.prog 24 #[wdV ah al, wdV bh bl] w fun e w' => e = .returned (.bool c) ∧ Below w.heap.size w w' := by
  rw [← cmpI_lt ah al bh bl ha hb] at hc
  obtain ⟨W, hW⟩ : ∃ W, W = (w.alloc (.cells #[.int .u64 ah, .int .u64 al] 45)).alloc (.cells #[.int .u64 bh, .int .u64 bl] 45) := ⟨_, rfl⟩
  have C := Lib.hid (fun q => cmp2_any w.heap.size (w.heap.size + 1) ah al bh bl (W.drewN q) (by rw [hW]; simp [go_sem]) (by rw [hW]; simp [go_sem]) (by rw [hW]; simp [go_sem]) (by rw [hW]; simp [go_sem]))
  have HB := Lib.hid (show Below w.heap.size w W by rw [hW]; go_grown)
  obtain ⟨r, hr⟩ : ∃ r, cmpI ah al bh bl = r := ⟨_, rfl⟩
  rw [hr] at C hc
  have HC := Lib.hid hc
  have HW := Lib.hid hW
  clear hr hc hW
  go_enter Try.func24, Try.ntmps24
  go_upto_region 1 with (fail)
  rw [← HW.out]
  go_quiet ((go_at_call 37; exact Calls.quiet_of_same ((C.out _).mono fun _ _ h => ⟨h.1, h.2.symm⟩)))
  go_wp2_with fail
  go_ret
  exact ⟨by first | rfl | (simp; exact HC.out), below_drewN HB.out _⟩
end Go.Proofs.Ytoabpakichjieaa
