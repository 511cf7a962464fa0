/- The document's Bound. -/
import Derived.Test.YtoabpakichjieaaEi
namespace Go.Proofs.Ytoabpakichjieaa
open Go.RowKit

set_option maxHeartbeats 8000000 in
theorem rBound_any (s d : Nat) (hs : s < 18446744073709551616) (hd : d < 18446744073709551616) (w : World) :
    Calls Try.prog 11 #[.int .u64 s, .int .u64 d] w fun e w' => e = .returned (.int .u64 (bnd s d : Nat)) ∧ Below w.heap.size w w' := by
  by_cases h2 : d < 2
  · have g : (d : Int) < 2 := by omega
    rw [bnd_zero_lt h2]
    go_enter Try.func11, Try.ntmps11
    go_wp2_with fail
    go_ret
    exact ⟨rfl, Below.refl _ _⟩
  have g : ¬ (d : Int) < 2 := by omega
  have hTs := bnd_le s d
  have hTT := fun t => Nat.le_div_iff_mul_le (x := t) (y := s * (d - 1)) (k := d + 1) (by omega)
  rw [← bnd_two (by omega)] at hTT
  obtain ⟨T, hT⟩ : ∃ T, bnd s d = T := ⟨_, rfl⟩
  rw [hT] at hTs hTT ⊢
  obtain ⟨d1, hd1⟩ : ∃ x, d - 1 = x := ⟨_, rfl⟩
  have g1 : (d : Int) - 1 = (d1 : Int) := by omega
  have hd1b : d1 < 18446744073709551616 := by omega
  rw [hd1] at hTT
  have HTT := Lib.hid hTT
  clear hTT hT hd1
  obtain ⟨a0, a1, a2, a3, qa⟩ := qt_of (s * d1)
  have T1 := Lib.hid (fun w => rTimes_any s d1 a0 a1 a2 a3 hs hd1b qa w)
  have QA := Lib.hid qa
  clear qa
  go_enter Try.func11, Try.ntmps11
  go_wp2_with fail
  refine (T1.out _).mono ?_
  rintro e w1 ⟨rfl, hb1⟩
  have H1 := Lib.hid (Hx.new (w0 := w) rfl hb1 a0 a1 a2 a3 50)
  obtain ⟨x, hx⟩ : ∃ x, x = w1.heap.size := ⟨_, rfl⟩
  go_upto_block 0 with (fail)
  rw [← hx] at H1 ⊢
  generalize w1.alloc (.cells #[.int .u64 a0, .int .u64 a1, .int .u64 a2, .int .u64 a3] 50) = W at *
  clear hx hb1 w1 T1 g1
  go_wp2_with fail
  go_loopw [6, 7] (fun qv sv wr => ∃ k q st p2 : Nat, k ≤ 64 ∧ qv = .int .u64 (q : Nat) ∧ sv = .int .u64 (st : Nat) ∧ p2 = 2 ^ k ∧ st = p2 / 2 ∧ q + p2 ≤ 18446744073709551616 ∧ q ≤ T ∧ T < q + p2 ∧ Hx w x a0 a1 a2 a3 wr) (fun _ sv _ => (intOf sv).toNat)
  case atStart => exact ⟨64, 0, 9223372036854775808, 18446744073709551616, by omega, by go_num, by go_num, by decide, by decide, by omega, by omega, by omega, H1.out⟩
  case round =>
    obtain ⟨k, q, st, p2, hk, rfl, rfl, hp2, hst, hq1, hq2, hq3, hH⟩ := hrel
    have HH := Lib.hid hH
    clear hH
    by_cases hk0 : k = 0
    · subst hk0
      have hp1 : p2 = 1 := hp2
      have hst0 : st = 0 := by rw [hst, hp1]
      have hqT : q = T := by omega
      subst hst0
      subst hqT
      have B := HH.out.2.2.2.2.2
      clear hp2 hst hp1 hq1 hq2 hq3
      go_wp2_with fail
      go_ret
      exact ⟨by first | rfl | simp, B⟩
    · have hpe : p2 = 2 * st ∧ st = 2 ^ (k - 1) := by
        obtain ⟨m, rfl⟩ : ∃ m, k = m + 1 := ⟨k - 1, by omega⟩
        rw [Nat.pow_succ] at hp2
        have : m + 1 - 1 = m := by omega
        rw [this]
        omega
      obtain ⟨hpe, hste⟩ := hpe
      have hst1 : 1 ≤ st := by rw [hste]; exact Nat.two_pow_pos _
      have HSE := Lib.hid hste
      clear hp2 hst hste
      obtain ⟨t, ht⟩ : ∃ t, q + st = t := ⟨_, rfl⟩
      have g3 : (0 : Int) < (st : Int) := by omega
      have hpe2 : p2 = st + st := by omega
      clear hpe
      have F1 : (q : Int) + (st : Int) = (t : Int) := by omega
      have tb : t < 18446744073709551616 := by omega
      obtain ⟨sh, hsh⟩ : ∃ sh, st / 2 = sh := ⟨_, rfl⟩
      have hhalf : (st : Int) / 2 = (sh : Int) := by omega
      have HSH := Lib.hid hsh
      have hshb : sh < st := by omega
      clear hsh
      have F2 : IntKind.u64.wrap ((q : Int) + (st : Int)) = (t : Int) := by rw [F1]; exact wrapN _ tb
      by_cases hts : t ≤ s
      · have g4 : (t : Int) ≤ (s : Int) := by omega
        have g5 : (q : Int) < (t : Int) := by omega
        obtain ⟨c, hc⟩ : ∃ c, decide (t * d + t ≤ s * d1) = c := ⟨_, rfl⟩
        have hcT : (c = true → t ≤ T) ∧ (c = false → T < t) := by
          have h := HTT.out t
          rw [Nat.mul_add, Nat.mul_one] at h
          refine ⟨fun e => h.2 (of_decide_eq_true (hc.trans e)), fun e => ?_⟩
          have h3 := of_decide_eq_false (hc.trans e)
          have h4 : ¬ t ≤ T := fun h5 => h3 (h.1 h5)
          omega
        have HCT := Lib.hid hcT
        have hsq : t * d ≤ 18446744073709551615 * 18446744073709551615 := Nat.mul_le_mul (by omega) (by omega)
        have hsum : t * d + t < 340282366920938463463374607431768211456 := by omega
        obtain ⟨e0, e1, e2, e3, qe⟩ := qt_of (t * d)
        obtain ⟨f0, f1, f2, f3, qf⟩ := qt_of (t * d + t)
        have T3 := Lib.hid (fun w => rTimes_any t d e0 e1 e2 e3 tb hd qe w)
        have T4 := Lib.hid (fun w => rMore_any (t * d) t e0 e1 e2 e3 f0 f1 f2 f3 tb hsum qe qf w)
        have K2 := Lib.hid (fun w => rMost_any (t * d + t) (s * d1) f0 f1 f2 f3 a0 a1 a2 a3 c qf QA.out hc w)
        clear hcT hc hsq hsum qe qf ht
        go_upto_region 9 with (fail)
        have S1 := keepH HH.out (Below.refl _ _).drew
        clear HH
        go_wp2_with fail
        go_region_held3 (fun w' => w'.cell? ⟨x, 0, none⟩ = some (.int .u64 (a0 : Nat)) ∧ w'.cell? ⟨x, 1, none⟩ = some (.int .u64 (a1 : Nat)) ∧ w'.cell? ⟨x, 2, none⟩ = some (.int .u64 (a2 : Nat)) ∧ w'.cell? ⟨x, 3, none⟩ = some (.int .u64 (a3 : Nat)) ∧ x < w'.heap.size ∧ Below w.heap.size w w')
          (first | (with_reducible assumption) | go_keep)
          (first
            | (go_at_call 20; (with_reducible refine (T3.out _).mono ?_); rintro e w4 ⟨rfl, hb4⟩; have S2 := keepH S1 hb4)
            | (go_at_call 22; (with_reducible refine (T4.out _).mono ?_); rintro e w5 ⟨rfl, hb5⟩; have S3 := keepH S2 hb5)
            | (go_at_call 21; (with_reducible refine (K2.out _).mono ?_); rintro e w6 ⟨rfl, hb6⟩; have S4 := keepH S3 hb6))
        all_goals
          have HB := Lib.hid S4
          clear S1 S2 S3 S4
          cases c
          · have hlt := HCT.out.2 rfl
            go_wp2_with fail
            go_roundw
            case rel => exact ⟨k - 1, q, sh, st, by omega, rfl, by first | rfl | go_num, HSE.out, HSH.out.symm, by omega, by omega, by omega, HB.out⟩
            case measure => simp [intOf]; omega
          · have hle := HCT.out.1 rfl
            go_wp2_with fail
            go_roundw
            case rel => exact ⟨k - 1, t, sh, st, by omega, rfl, by first | rfl | go_num, HSE.out, HSH.out.symm, by omega, by omega, by omega, HB.out⟩
            case measure => simp [intOf]; omega
      · have g4 : ¬ (t : Int) ≤ (s : Int) := by omega
        go_wp2_with fail
        go_roundw
        case rel => exact ⟨k - 1, q, sh, st, by omega, rfl, by first | rfl | go_num, HSE.out, HSH.out.symm, by omega, by omega, by omega, HH.out⟩
        case measure => simp [intOf]; omega
end Go.Proofs.Ytoabpakichjieaa
