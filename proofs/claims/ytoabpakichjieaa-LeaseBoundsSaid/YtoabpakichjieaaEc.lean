/- The library's division of two halves, at this program. -/
import Derived.Test.YtoabpakichjieaaEb
import Derived.Deep.CutBlock
import Derived.Deep.DeepCutAuto
namespace Go.Proofs.Ytoabpakichjieaa
open Go.RowKit Go.Lib

theorem bitLen_of (x : Nat) (h0 : 0 < x) (h : x < 18446744073709551616) : ∃ b, Lib.bitLen x = b ∧ 1 ≤ b ∧ b ≤ 64 ∧ 2 ^ (b - 1) ≤ x ∧ x < 2 ^ b := by
  have h1 : 2 ^ x.log2 ≤ x := Nat.log2_self_le (by omega)
  have h2 : x < 2 ^ (x.log2 + 1) := Nat.lt_log2_self
  have h3 : x.log2 < 64 := (Nat.log2_lt (by omega)).2 h
  have h4 := Lib.bitLen_shift x.log2 x h1 h
  have h5 : x / 2 ^ x.log2 = 1 := by
    have hp : 0 < 2 ^ x.log2 := Nat.two_pow_pos _
    refine Nat.le_antisymm ?_ ((Nat.le_div_iff_mul_le hp).2 (by omega))
    refine Nat.le_of_lt_succ ((Nat.div_lt_iff_lt_mul hp).2 ?_)
    rw [Nat.pow_succ] at h2; omega
  rw [h5, show Lib.bitLen 1 = 1 by decide] at h4
  exact ⟨_, h4, by omega, by omega, by simpa using h1, h2⟩
/-- The divisor, moved up until its first bit is set, and the dividend with it. -/
theorem norm_of {hi lo y P R : Nat} (hP : 0 < P) (hR : P * R = 18446744073709551616) (h1 : hi < y) (h3 : lo < 18446744073709551616) :
    hi * P + lo / R < y * P ∧ lo / R < P ∧ (hi * 18446744073709551616 + lo) / y = ((hi * P + lo / R) * 18446744073709551616 + lo * P % 18446744073709551616) / (y * P) := by
  have hR0 : 0 < R := by
    rcases Nat.eq_zero_or_pos R with h | h
    · rw [h] at hR; omega
    · exact h
  have e1 : lo / R = lo * P / 18446744073709551616 := by rw [← hR, Nat.mul_comm P R, Nat.mul_div_mul_right _ _ hP]
  have h4 : lo / R < P := by rw [Nat.div_lt_iff_lt_mul hR0, hR]; exact h3
  have h5 : (hi + 1) * P ≤ y * P := Nat.mul_le_mul_right _ h1
  rw [Nat.add_mul] at h5
  refine ⟨by omega, h4, ?_⟩
  have e2 : (hi * P + lo / R) * 18446744073709551616 + lo * P % 18446744073709551616 = (hi * 18446744073709551616 + lo) * P := by
    rw [e1, Nat.add_mul, Nat.add_mul, Nat.mul_right_comm hi 18446744073709551616 P]
    have := Nat.div_add_mod (lo * P) 18446744073709551616
    omega
  rw [e2, Nat.mul_div_mul_right _ _ hP]
set_option maxHeartbeats 4000000 in
theorem div64_any (hlead : ∀ (x : Nat) (w : World), x ≤ 18446744073709551615 → Calls Try.prog 35 #[.int .u64 x] w fun e w' => e = .returned (.int .i64 ((64 - Lib.bitLen x : Nat) : Int)) ∧ w = w') (hi lo y : Nat) (h0 : 0 < hi) (h1 : hi < y) (h2 : y < 18446744073709551616) (h3 : lo < 18446744073709551616) (w : World) :
    Calls Try.prog 19 #[.int .u64 hi, .int .u64 lo, .int .u64 y] w fun e w' => (∃ r : Int, e = .returned (.tuple #[.int .u64 (((hi * 18446744073709551616 + lo) / y : Nat) : Int), .int .u64 r])) ∧ w = w' := by
  obtain ⟨b, hb, b1, b2, b3, b4⟩ := bitLen_of y (by omega) h2
  obtain ⟨s, hs⟩ : ∃ s, 64 - b = s := ⟨_, rfl⟩
  have HLD := Lib.hid (hlead y w (by omega))
  rw [hb, hs] at HLD
  obtain ⟨P, hP⟩ : ∃ P, 2 ^ s = P := ⟨_, rfl⟩
  obtain ⟨R, hR⟩ : ∃ R, 2 ^ (64 - s) = R := ⟨_, rfl⟩
  have hPR : P * R = 18446744073709551616 := by
    rw [← hP, ← hR, ← Nat.pow_add, show s + (64 - s) = 64 by omega]
  have hP0 : 0 < P := by rw [← hP]; exact Nat.two_pow_pos _
  obtain ⟨n1, n2, n3⟩ := norm_of (lo := lo) hP0 hPR h1 h3
  have hv1 : 9223372036854775808 ≤ y * P := by
    have : 2 ^ (b - 1) * 2 ^ s ≤ y * P := by rw [← hP]; exact Nat.mul_le_mul_right _ b3
    rw [← Nat.pow_add, show b - 1 + s = 63 by omega] at this; exact this
  have hv2 : y * P < 18446744073709551616 := by
    have : y * 2 ^ s < 2 ^ b * 2 ^ s := Nat.mul_lt_mul_of_pos_right b4 (Nat.two_pow_pos _)
    rw [← Nat.pow_add, show b + s = 64 by omega, hP] at this; exact this
  have hs64 : s < 64 := by omega
  clear hlead b1 b3 b4 hs hb b2
  -- the numbers by their names
  obtain ⟨v, hv⟩ : ∃ v, y * P = v := ⟨_, rfl⟩
  obtain ⟨l1, hl1⟩ : ∃ l1, lo / R = l1 := ⟨_, rfl⟩
  obtain ⟨u, hu⟩ : ∃ u, hi * P + l1 = u := ⟨_, rfl⟩
  obtain ⟨un, hun⟩ : ∃ un, lo * P % 18446744073709551616 = un := ⟨_, rfl⟩
  have hunlt : un < 18446744073709551616 := by rw [← hun]; exact Nat.mod_lt _ (by decide)
  rw [hv, hl1, hu, hun] at n3
  rw [hv, hl1, hu] at n1
  rw [hl1] at n2
  rw [hv] at hv1 hv2
  have E1 : IntKind.u64.wrap ((y : Int) * 2 ^ s) = (v : Int) := by
    have : (y : Int) * 2 ^ s = (v : Int) := by rw [← hv, ← hP]; push_cast; rfl
    rw [this]; exact wrapN _ hv2
  have E4 : bits .or .u64 (IntKind.u64.wrap ((hi : Int) * 2 ^ s)) ((lo : Int) / 2 ^ (64 - s)) = (u : Int) := by
    have a1 : (hi : Int) * 2 ^ s = ((hi * P : Nat) : Int) := by rw [← hP]; push_cast; rfl
    have a2 : (lo : Int) / 2 ^ (64 - s) = (l1 : Int) := by rw [← hl1, ← hR]; push_cast; rfl
    rw [a1, a2, wrapN _ (by omega), bits_or_u64_nat _ _ (by omega) (by omega), Nat.mul_comm, ← hP, ← Nat.two_pow_add_eq_or_of_lt (by rw [hP]; exact n2), hP, Nat.mul_comm, hu]
  have E5 : IntKind.u64.wrap ((lo : Int) * 2 ^ s) = (un : Int) := by
    have : (lo : Int) * 2 ^ s = ((lo * P : Nat) : Int) := by rw [← hP]; push_cast; rfl
    rw [this, wrapM, hun]
  rw [n3]
  have hulv : u < v := n1
  clear hP hR hPR hP0 n1 n2 n3 hv hl1 hu hun
  have hvn : v = v / 4294967296 * 4294967296 + v % 4294967296 := by omega
  have E2 : (v : Int) / 4294967296 = ((v / 4294967296 : Nat) : Int) := divN v
  have E3 := maskN v hv2
  have E6 : (un : Int) / 4294967296 = ((un / 4294967296 : Nat) : Int) := divN un
  have E7 := maskN un hunlt
  have hun2 : un = un / 4294967296 * 4294967296 + un % 4294967296 := by omega
  obtain ⟨vn1, hvn1⟩ : ∃ z, v / 4294967296 = z := ⟨_, rfl⟩
  obtain ⟨vn0, hvn0⟩ : ∃ z, v % 4294967296 = z := ⟨_, rfl⟩
  obtain ⟨un1, hun1⟩ : ∃ z, un / 4294967296 = z := ⟨_, rfl⟩
  obtain ⟨un0, hun0⟩ : ∃ z, un % 4294967296 = z := ⟨_, rfl⟩
  have v1lo : 2147483648 ≤ vn1 := by omega
  have v1hi : vn1 < 4294967296 := by omega
  have v0hi : vn0 < 4294967296 := by omega
  have u1hi : un1 < 4294967296 := by omega
  have u0hi : un0 < 4294967296 := by omega
  rw [hvn1, hvn0] at hvn
  rw [hun1, hun0] at hun2
  rw [hvn1] at E2
  rw [hvn0] at E3
  rw [hun1] at E6
  rw [hun0] at E7
  clear hvn1 hvn0 hun1 hun0
  obtain ⟨Q1, hQ1⟩ : ∃ Q, (u * 4294967296 + un1) / v = Q := ⟨_, rfl⟩
  obtain ⟨R1, hR1⟩ : ∃ Q, (u * 4294967296 + un1) % v = Q := ⟨_, rfl⟩
  obtain ⟨Q0, hQ0⟩ : ∃ Q, (R1 * 4294967296 + un0) / v = Q := ⟨_, rfl⟩
  have hres : (u * 18446744073709551616 + un) / v = Q1 * 4294967296 + Q0 := by
    rw [hun2, ← Nat.add_assoc, two_digits (by omega), hQ1, hR1, hQ0]
  rw [hres]
  have hQ1lt : Q1 < 4294967296 := by rw [← hQ1]; exact digit_lt hulv u1hi
  have hR1lt : R1 < v := by rw [← hR1]; exact Nat.mod_lt _ (by omega)
  have hQ0lt : Q0 < 4294967296 := by rw [← hQ0]; exact digit_lt hR1lt u0hi
  have hdm : v * Q1 + R1 = u * 4294967296 + un1 := by rw [← hQ1, ← hR1]; exact Nat.div_add_mod _ _
  have HV := Lib.hid hvn
  have HQ1 := Lib.hid hQ1.symm
  have HQ0 := Lib.hid hQ0.symm
  have HDM := Lib.hid hdm
  clear hvn hQ1 hQ0 hR1 hdm hun2 hres
  have g1 : ((y : Int) == 0) = false := by simp; omega
  have g2 : ((hi : Int) == 0) = false := by simp; omega
  have g3 : ¬ (y : Int) ≤ (hi : Int) := by omega
  have g4 : ¬ (vn1 : Int) = 0 := by omega
  -- the first guess
  obtain ⟨q0, hq0⟩ : ∃ z, u / vn1 = z := ⟨_, rfl⟩
  have E8 : (u : Int).tdiv (vn1 : Int) = (q0 : Int) := by rw [← hq0]; rfl
  have E8' : (u : Int) / (vn1 : Int) = (q0 : Int) := by rw [← hq0]; rfl
  have hq0u : q0 ≤ u := by rw [← hq0]; exact Nat.div_le_self _ _
  obtain ⟨r0, hr0⟩ : ∃ z, u % vn1 = z := ⟨_, rfl⟩
  have hr0lt : r0 < vn1 := by rw [← hr0]; exact Nat.mod_lt _ (by omega)
  have hqr : u = q0 * vn1 + r0 := by rw [← hq0, ← hr0, Nat.mul_comm]; exact (Nat.div_add_mod _ _).symm
  have hqQ : Q1 ≤ q0 := by rw [← hq0, HQ1.out]; exact guess_ge HV.out u1hi (by omega)
  have E9 : IntKind.u64.wrap ((u : Int) - IntKind.u64.wrap ((q0 : Int) * (vn1 : Int))) = (r0 : Int) := by
    rw [mulN, wrapN _ (by omega)]
    have : (u : Int) - ((q0 * vn1 : Nat) : Int) = (r0 : Int) := by omega
    rw [this]; exact wrapN _ (by omega)
  have HQR := Lib.hid hqr
  have HQQ := Lib.hid hqQ
  clear hqr hqQ hq0 hr0
  have q0b : (q0 : Int) < 18446744073709551616 := by omega
  go_enter Try.func19, Try.ntmps19
  go_wp2_with fail
  refine HLD.out.mono ?_
  rintro e w2 ⟨rfl, rfl⟩
  clear HLD
  go_upto_block 0 with (fail)
  clear E1 E2 E3 E4 E5 E6 E7 E8 E8' E9
  go_cut [15] (fun qv wx => qv = .int .u64 Q1 ∧ wx = w)
  case first =>
    go_wp2_with fail
    go_loop [15, 16] (fun qv rv => ∃ q r : Nat, qv = .int .u64 q ∧ rv = .int .u64 r ∧ u = q * vn1 + r ∧ Q1 ≤ q ∧ r < 4294967296 ∧ q ≤ u) (fun qv _ => (intOf qv).toNat)
    case atStart => exact ⟨q0, r0, rfl, rfl, HQR.out, HQQ.out, by omega, by omega⟩
    case round =>
      obtain ⟨q, r, rfl, rfl, hqr, hqQ, hr, hqu⟩ := hrel
      have hv0 : 0 < v := by omega
      have HG := Lib.hid (guess_iff (un1 := un1) HV.out hqr HQ1.out hv0)
      have HD := Lib.hid (fun (q1 r1 : Nat) (h : u = q1 * vn1 + r1) (h4 : 4294967296 ≤ r1) (h5 : Q1 ≤ q1) => guess_done (un1 := un1) HV.out v0hi h (by omega) h4 HQ1.out h5 (by omega))
      have HN := Lib.hid (show 0 < q → u = (q - 1) * vn1 + (r + vn1) from fun h => by
        have : q * vn1 = (q - 1) * vn1 + vn1 := by
          obtain ⟨k, rfl⟩ : ∃ k, q = k + 1 := ⟨q - 1, by omega⟩
          rw [Nat.add_mul]; simp
        omega)
      clear hqr
      obtain ⟨a, ha⟩ : ∃ a, q * vn0 = a := ⟨_, rfl⟩
      rw [ha] at HG
      by_cases c0 : 4294967296 ≤ q ∨ r * 4294967296 + un1 < a
      · have hq1 : 1 ≤ q := by
          rcases c0 with h | h
          · omega
          · rcases Nat.eq_zero_or_pos q with h0 | h0
            · rw [h0, Nat.zero_mul] at ha; omega
            · exact h0
        have hQq : Q1 + 1 ≤ q := by
          rcases c0 with h | h
          · omega
          · have := HG.out.1 h; omega
        have HNN := Lib.hid (HN.out hq1)
        have p1 : (1 : Int) ≤ q := by omega
        have p2 : (q : Int) < 18446744073709551616 := by omega
        clear HN HG
        by_cases c1 : 4294967296 ≤ q
        · have f1 : (4294967296 : Int) ≤ q := by omega
          clear c0 ha
          by_cases c3 : 4294967296 ≤ r + vn1
          · have f3 : (4294967296 : Int) ≤ (r : Int) + vn1 := by omega
            have HX := Lib.hid (HD.out _ _ HNN.out c3 (by omega))
            go_wp2_with fail
            go_meet
            exact ⟨by rw [← HX.out]; go_num, rfl⟩
          · have f3 : ¬ (4294967296 : Int) ≤ (r : Int) + vn1 := by omega
            go_wp2_with fail
            go_round
            case rel => exact ⟨q - 1, r + vn1, by go_num, by go_num, HNN.out, by omega, by omega, by omega⟩
            case measure => simp [intOf]; omega
        · have f1 : ¬ (4294967296 : Int) ≤ q := by omega
          have c2 : r * 4294967296 + un1 < a := by omega
          have f2 : 4294967296 * (r : Int) + (un1 : Int) < (a : Int) := by omega
          have F1 : IntKind.u64.wrap ((q : Int) * (vn0 : Int)) = (a : Int) := by
            rw [mulN, ha]; refine wrapN _ ?_
            have : q * vn0 ≤ 4294967295 * 4294967295 := Nat.mul_le_mul (by omega) (by omega)
            omega
          have HA := Lib.hid ha
          clear c0 ha
          by_cases c3 : 4294967296 ≤ r + vn1
          · have f3 : (4294967296 : Int) ≤ (r : Int) + vn1 := by omega
            have HX := Lib.hid (HD.out _ _ HNN.out c3 (by omega))
            go_wp2_with fail
            go_meet
            exact ⟨by rw [← HX.out]; go_num, rfl⟩
          · have f3 : ¬ (4294967296 : Int) ≤ (r : Int) + vn1 := by omega
            go_wp2_with fail
            go_round
            case rel => exact ⟨q - 1, r + vn1, by go_num, by go_num, HNN.out, by omega, by omega, by omega⟩
            case measure => simp [intOf]; omega
      · have HX := Lib.hid (show q = Q1 by
          have h4 := HG.out
          have h5 : ¬ Q1 < q := fun h => c0 (.inr (h4.2 h))
          omega)
        have c1 : ¬ 4294967296 ≤ q := fun h => c0 (.inl h)
        have c2 : ¬ r * 4294967296 + un1 < a := fun h => c0 (.inr h)
        have f1 : ¬ (4294967296 : Int) ≤ q := by omega
        have f2 : ¬ 4294967296 * (r : Int) + (un1 : Int) < (a : Int) := by omega
        have F1 : IntKind.u64.wrap ((q : Int) * (vn0 : Int)) = (a : Int) := by
          rw [mulN, ha]; refine wrapN _ ?_
          have : q * vn0 ≤ 4294967295 * 4294967295 := Nat.mul_le_mul (by omega) (by omega)
          omega
        have HA := Lib.hid ha
        clear c0 ha HN HG HD
        go_wp2_with fail
        go_meet
        exact ⟨by rw [← HX.out], rfl⟩
  case rest =>
    obtain ⟨rfl, rfl⟩ := hcut
    clear HQR HQQ hr0lt q0b hq0u
    have E10 : IntKind.u64.wrap (IntKind.u64.wrap (IntKind.u64.wrap ((u : Int) * 4294967296) + (un1 : Int)) - IntKind.u64.wrap ((Q1 : Int) * (v : Int))) = (R1 : Int) := by
      have h := HDM.out
      rw [mulN Q1 v, Nat.mul_comm Q1 v]
      obtain ⟨z, hz⟩ : ∃ z, v * Q1 = z := ⟨_, rfl⟩
      rw [hz] at h ⊢
      clear hz
      simp only [IntKind.wrap_u64]
      omega
    obtain ⟨q2, hq2⟩ : ∃ z, R1 / vn1 = z := ⟨_, rfl⟩
    have E8 : (R1 : Int).tdiv (vn1 : Int) = (q2 : Int) := by rw [← hq2]; rfl
    have E8' : (R1 : Int) / (vn1 : Int) = (q2 : Int) := by rw [← hq2]; rfl
    have hq2u : q2 ≤ R1 := by rw [← hq2]; exact Nat.div_le_self _ _
    obtain ⟨r2, hr2⟩ : ∃ z, R1 % vn1 = z := ⟨_, rfl⟩
    have hr2lt : r2 < vn1 := by rw [← hr2]; exact Nat.mod_lt _ (by omega)
    have hqr : R1 = q2 * vn1 + r2 := by rw [← hq2, ← hr2, Nat.mul_comm]; exact (Nat.div_add_mod _ _).symm
    have hqQ : Q0 ≤ q2 := by rw [← hq2, HQ0.out]; exact guess_ge HV.out u0hi (by omega)
    have E9 : IntKind.u64.wrap ((R1 : Int) - IntKind.u64.wrap ((q2 : Int) * (vn1 : Int))) = (r2 : Int) := by
      rw [mulN, wrapN _ (by omega)]
      have : (R1 : Int) - ((q2 * vn1 : Nat) : Int) = (r2 : Int) := by omega
      rw [this]; exact wrapN _ (by omega)
    have HQR2 := Lib.hid hqr
    have HQQ2 := Lib.hid hqQ
    clear hqr hqQ hq2 hr2
    have q2b : (q2 : Int) < 18446744073709551616 := by omega
    go_upto_block 2 with (fail)
    clear E8 E8' E9 E10
    go_cut [18] (fun qv wx => qv = .int .u64 Q0 ∧ wx = wc)
    case first =>
      go_wp2_with fail
      go_loop [18, 16] (fun qv rv => ∃ q r : Nat, qv = .int .u64 q ∧ rv = .int .u64 r ∧ R1 = q * vn1 + r ∧ Q0 ≤ q ∧ r < 4294967296 ∧ q ≤ R1) (fun qv _ => (intOf qv).toNat)
      case atStart => exact ⟨q2, r2, rfl, rfl, HQR2.out, HQQ2.out, by omega, by omega⟩
      case round =>
        obtain ⟨q, r, rfl, rfl, hqr, hqQ, hr, hqu⟩ := hrel
        have hv0 : 0 < v := by omega
        have HG := Lib.hid (guess_iff (un1 := un0) HV.out hqr HQ0.out hv0)
        have HD := Lib.hid (fun (q1 r1 : Nat) (h : R1 = q1 * vn1 + r1) (h4 : 4294967296 ≤ r1) (h5 : Q0 ≤ q1) => guess_done (un1 := un0) HV.out v0hi h (by omega) h4 HQ0.out h5 (by omega))
        have HN := Lib.hid (show 0 < q → R1 = (q - 1) * vn1 + (r + vn1) from fun h => by
          have : q * vn1 = (q - 1) * vn1 + vn1 := by
            obtain ⟨k, rfl⟩ : ∃ k, q = k + 1 := ⟨q - 1, by omega⟩
            rw [Nat.add_mul]; simp
          omega)
        clear hqr
        obtain ⟨a, ha⟩ : ∃ a, q * vn0 = a := ⟨_, rfl⟩
        rw [ha] at HG
        by_cases c0 : 4294967296 ≤ q ∨ r * 4294967296 + un0 < a
        · have hq1 : 1 ≤ q := by
            rcases c0 with h | h
            · omega
            · rcases Nat.eq_zero_or_pos q with h0 | h0
              · rw [h0, Nat.zero_mul] at ha; omega
              · exact h0
          have hQq : Q0 + 1 ≤ q := by
            rcases c0 with h | h
            · omega
            · have := HG.out.1 h; omega
          have HNN := Lib.hid (HN.out hq1)
          have p1 : (1 : Int) ≤ q := by omega
          have p2 : (q : Int) < 18446744073709551616 := by omega
          clear HN HG
          by_cases c1 : 4294967296 ≤ q
          · have f1 : (4294967296 : Int) ≤ q := by omega
            clear c0 ha
            by_cases c3 : 4294967296 ≤ r + vn1
            · have f3 : (4294967296 : Int) ≤ (r : Int) + vn1 := by omega
              have HX := Lib.hid (HD.out _ _ HNN.out c3 (by omega))
              go_wp2_with fail
              go_meet
              exact ⟨by rw [← HX.out]; go_num, rfl⟩
            · have f3 : ¬ (4294967296 : Int) ≤ (r : Int) + vn1 := by omega
              go_wp2_with fail
              go_round
              case rel => exact ⟨q - 1, r + vn1, by go_num, by go_num, HNN.out, by omega, by omega, by omega⟩
              case measure => simp [intOf]; omega
          · have f1 : ¬ (4294967296 : Int) ≤ q := by omega
            have c2 : r * 4294967296 + un0 < a := by omega
            have f2 : 4294967296 * (r : Int) + (un0 : Int) < (a : Int) := by omega
            have F1 : IntKind.u64.wrap ((q : Int) * (vn0 : Int)) = (a : Int) := by
              rw [mulN, ha]; refine wrapN _ ?_
              have : q * vn0 ≤ 4294967295 * 4294967295 := Nat.mul_le_mul (by omega) (by omega)
              omega
            have HA := Lib.hid ha
            clear c0 ha
            by_cases c3 : 4294967296 ≤ r + vn1
            · have f3 : (4294967296 : Int) ≤ (r : Int) + vn1 := by omega
              have HX := Lib.hid (HD.out _ _ HNN.out c3 (by omega))
              go_wp2_with fail
              go_meet
              exact ⟨by rw [← HX.out]; go_num, rfl⟩
            · have f3 : ¬ (4294967296 : Int) ≤ (r : Int) + vn1 := by omega
              go_wp2_with fail
              go_round
              case rel => exact ⟨q - 1, r + vn1, by go_num, by go_num, HNN.out, by omega, by omega, by omega⟩
              case measure => simp [intOf]; omega
        · have HX := Lib.hid (show q = Q0 by
            have h4 := HG.out
            have h5 : ¬ Q0 < q := fun h => c0 (.inr (h4.2 h))
            omega)
          have c1 : ¬ 4294967296 ≤ q := fun h => c0 (.inl h)
          have c2 : ¬ r * 4294967296 + un0 < a := fun h => c0 (.inr h)
          have f1 : ¬ (4294967296 : Int) ≤ q := by omega
          have f2 : ¬ 4294967296 * (r : Int) + (un0 : Int) < (a : Int) := by omega
          have F1 : IntKind.u64.wrap ((q : Int) * (vn0 : Int)) = (a : Int) := by
            rw [mulN, ha]; refine wrapN _ ?_
            have : q * vn0 ≤ 4294967295 * 4294967295 := Nat.mul_le_mul (by omega) (by omega)
            omega
          have HA := Lib.hid ha
          clear c0 ha HN HG HD
          go_wp2_with fail
          go_meet
          exact ⟨by rw [← HX.out], rfl⟩
    case rest =>
      obtain ⟨rfl, rfl⟩ := hcut
      go_wp2_with fail
      go_ret2
      exact ⟨⟨_, by first | rfl | (congr 5; go_num) | go_num⟩, rfl⟩
end Go.Proofs.Ytoabpakichjieaa
