/- LeaseLess. -/
import Derived.Test.YtoabpakichjieaaEp
namespace Go.Proofs.Ytoabpakichjieaa
open Go.RowKit

set_option maxHeartbeats 4000000 in
theorem law_LeaseLess (s m d : Nat) (hs : s < 18446744073709551616) (_ : m < 18446744073709551616) (hd : d < 18446744073709551616) (w : World) :
    Calls Try.prog 7 #[.int .u64 s, .int .u64 m, .int .u64 d] w fun e w' => e = .returned (.bool true) ∧ Below w.heap.size w w' := by
  have P1 := Lib.hid (fun w => pBound_any s d hs hd w)
  by_cases h2 : d < 2
  · have g : (d : Int) < 2 := by omega
    rw [bnd_zero_lt h2] at P1
    go_enter Try.func7, Try.ntmps7
    go_wp2_with fail
    refine (shown_any _).mono ?_
    rintro e w1 ⟨rfl, hb1⟩
    have HB1 := Lib.hid hb1
    clear hb1
    go_wp2_with fail
    refine (P1.out _).mono ?_
    rintro e w2 ⟨rfl, hb2⟩
    have HB2 := Lib.hid (HB1.out.trans (hb2.mono HB1.out.size))
    clear hb2
    go_wp2_with fail
    go_ret
    exact ⟨by first | rfl | simp, HB2.out⟩
  have g : ¬ (d : Int) < 2 := by omega
  obtain ⟨n, hn⟩ : ∃ n, bnd s d = n := ⟨_, rfl⟩
  have hns : n ≤ s := by rw [← hn]; exact bnd_le s d
  have hnlt : 0 < s → n < s := fun h => by rw [← hn]; exact bnd_lt h
  rw [hn] at P1
  obtain ⟨z, ez⟩ : ∃ z, (s + m) % 18446744073709551616 = z := ⟨_, rfl⟩
  obtain ⟨y, ey⟩ : ∃ y, (d + 1) % 18446744073709551616 = y := ⟨_, rfl⟩
  have hz : z < 18446744073709551616 := by omega
  have hy : y < 18446744073709551616 := by omega
  have hbet : y ≠ 0 → bnd s d ≤ bnd s y := fun h => by
    obtain rfl : y = d + 1 := by omega
    exact bnd_better
  have E1 : IntKind.u64.wrap ((s : Int) + (m : Int)) = (z : Int) := by rw [IntKind.wrap_u64]; omega
  have E2 : IntKind.u64.wrap ((d : Int) + 1) = (y : Int) := by rw [IntKind.wrap_u64]; omega
  by_cases hzs : z < s
  · have gz : (z : Int) < (s : Int) := by omega
    by_cases hy0 : y = 0
    · have gy : ((y : Int) == 0) = true := by simp; omega
      have P2 := Lib.hid (fun w => pBound_any s d hs hd w)
      have P3 := Lib.hid (fun w => pBound_any s d hs hd w)
      obtain ⟨n2, hn2⟩ : ∃ n, bnd s d = n := ⟨_, rfl⟩
      obtain ⟨n3, hn3⟩ : ∃ n, bnd s d = n := ⟨_, rfl⟩
      have m2 : n ≤ n2 := by rw [← hn, ← hn2]; exact bnd_mono (by omega)
      have m3 : n ≤ n3 := Nat.le_of_eq (hn.symm.trans hn3)
      rw [hn2] at P2
      rw [hn3] at P3
      have q2 : (n : Int) ≤ (n2 : Int) := by omega
      have q3 : (n : Int) ≤ (n3 : Int) := by omega
      have HE := Lib.hid (And.intro ez ey)
      clear hn hn2 hn3 hbet ez ey
      by_cases h0 : s = 0
      · omega
      · have g0 : ((s : Int) == 0) = false := by simp; omega
        have g00 : (n : Int) < (s : Int) := by omega
        go_enter Try.func7, Try.ntmps7
        go_wp2_with fail
        refine (shown_any _).mono ?_
        rintro e w1 ⟨rfl, hb1⟩
        have HB1 := Lib.hid hb1
        clear hb1
        go_wp2_with fail
        refine (P1.out _).mono ?_
        rintro e w2 ⟨rfl, hb2⟩
        have HB2 := Lib.hid (HB1.out.trans (hb2.mono HB1.out.size))
        clear hb2
        go_wp2_with fail
        refine (P2.out _).mono ?_
        rintro e w3 ⟨rfl, hb3⟩
        have HB3 := Lib.hid (HB2.out.trans (hb3.mono HB2.out.size))
        clear hb3
        go_wp2_with fail
        refine (P3.out _).mono ?_
        rintro e w4 ⟨rfl, hb4⟩
        have HB4 := Lib.hid (HB3.out.trans (hb4.mono HB3.out.size))
        clear hb4
        go_wp2_with fail
        go_ret
        exact ⟨by first | rfl | simp, HB4.out⟩
    · have gy : ((y : Int) == 0) = false := by simp; omega
      have P2 := Lib.hid (fun w => pBound_any s d hs hd w)
      have P3 := Lib.hid (fun w => pBound_any s y hs hy w)
      obtain ⟨n2, hn2⟩ : ∃ n, bnd s d = n := ⟨_, rfl⟩
      obtain ⟨n3, hn3⟩ : ∃ n, bnd s y = n := ⟨_, rfl⟩
      have m2 : n ≤ n2 := by rw [← hn, ← hn2]; exact bnd_mono (by omega)
      have m3 : n ≤ n3 := by
        rw [← hn, ← hn3]
        exact hbet (by omega)
      rw [hn2] at P2
      rw [hn3] at P3
      have q2 : (n : Int) ≤ (n2 : Int) := by omega
      have q3 : (n : Int) ≤ (n3 : Int) := by omega
      have HE := Lib.hid (And.intro ez ey)
      clear hn hn2 hn3 hbet ez ey
      by_cases h0 : s = 0
      · omega
      · have g0 : ((s : Int) == 0) = false := by simp; omega
        have g00 : (n : Int) < (s : Int) := by omega
        go_enter Try.func7, Try.ntmps7
        go_wp2_with fail
        refine (shown_any _).mono ?_
        rintro e w1 ⟨rfl, hb1⟩
        have HB1 := Lib.hid hb1
        clear hb1
        go_wp2_with fail
        refine (P1.out _).mono ?_
        rintro e w2 ⟨rfl, hb2⟩
        have HB2 := Lib.hid (HB1.out.trans (hb2.mono HB1.out.size))
        clear hb2
        go_wp2_with fail
        refine (P2.out _).mono ?_
        rintro e w3 ⟨rfl, hb3⟩
        have HB3 := Lib.hid (HB2.out.trans (hb3.mono HB2.out.size))
        clear hb3
        go_wp2_with fail
        refine (P3.out _).mono ?_
        rintro e w4 ⟨rfl, hb4⟩
        have HB4 := Lib.hid (HB3.out.trans (hb4.mono HB3.out.size))
        clear hb4
        go_wp2_with fail
        go_ret
        exact ⟨by first | rfl | simp, HB4.out⟩
  · have gz : ¬ (z : Int) < (s : Int) := by omega
    by_cases hy0 : y = 0
    · have gy : ((y : Int) == 0) = true := by simp; omega
      have P2 := Lib.hid (fun w => pBound_any z d hz hd w)
      have P3 := Lib.hid (fun w => pBound_any s d hs hd w)
      obtain ⟨n2, hn2⟩ : ∃ n, bnd z d = n := ⟨_, rfl⟩
      obtain ⟨n3, hn3⟩ : ∃ n, bnd s d = n := ⟨_, rfl⟩
      have m2 : n ≤ n2 := by rw [← hn, ← hn2]; exact bnd_mono (by omega)
      have m3 : n ≤ n3 := Nat.le_of_eq (hn.symm.trans hn3)
      rw [hn2] at P2
      rw [hn3] at P3
      have q2 : (n : Int) ≤ (n2 : Int) := by omega
      have q3 : (n : Int) ≤ (n3 : Int) := by omega
      have HE := Lib.hid (And.intro ez ey)
      clear hn hn2 hn3 hbet ez ey
      by_cases h0 : s = 0
      · have g0 : ((s : Int) == 0) = true := by simp; omega
        have g00 : ¬ (n : Int) < (s : Int) := by omega
        have g01 : ((n : Int) == 0) = true := by simp; omega
        have HZ0 := Lib.hid h0
        clear h0
        go_enter Try.func7, Try.ntmps7
        go_wp2_with fail
        refine (shown_any _).mono ?_
        rintro e w1 ⟨rfl, hb1⟩
        have HB1 := Lib.hid hb1
        clear hb1
        go_wp2_with fail
        refine (P1.out _).mono ?_
        rintro e w2 ⟨rfl, hb2⟩
        have HB2 := Lib.hid (HB1.out.trans (hb2.mono HB1.out.size))
        clear hb2
        go_wp2_with fail
        refine (P2.out _).mono ?_
        rintro e w3 ⟨rfl, hb3⟩
        have HB3 := Lib.hid (HB2.out.trans (hb3.mono HB2.out.size))
        clear hb3
        go_wp2_with fail
        refine (P3.out _).mono ?_
        rintro e w4 ⟨rfl, hb4⟩
        have HB4 := Lib.hid (HB3.out.trans (hb4.mono HB3.out.size))
        clear hb4
        go_wp2_with fail
        go_ret
        exact ⟨by first | rfl | simp, HB4.out⟩
      · have g0 : ((s : Int) == 0) = false := by simp; omega
        have g00 : (n : Int) < (s : Int) := by omega
        go_enter Try.func7, Try.ntmps7
        go_wp2_with fail
        refine (shown_any _).mono ?_
        rintro e w1 ⟨rfl, hb1⟩
        have HB1 := Lib.hid hb1
        clear hb1
        go_wp2_with fail
        refine (P1.out _).mono ?_
        rintro e w2 ⟨rfl, hb2⟩
        have HB2 := Lib.hid (HB1.out.trans (hb2.mono HB1.out.size))
        clear hb2
        go_wp2_with fail
        refine (P2.out _).mono ?_
        rintro e w3 ⟨rfl, hb3⟩
        have HB3 := Lib.hid (HB2.out.trans (hb3.mono HB2.out.size))
        clear hb3
        go_wp2_with fail
        refine (P3.out _).mono ?_
        rintro e w4 ⟨rfl, hb4⟩
        have HB4 := Lib.hid (HB3.out.trans (hb4.mono HB3.out.size))
        clear hb4
        go_wp2_with fail
        go_ret
        exact ⟨by first | rfl | simp, HB4.out⟩
    · have gy : ((y : Int) == 0) = false := by simp; omega
      have P2 := Lib.hid (fun w => pBound_any z d hz hd w)
      have P3 := Lib.hid (fun w => pBound_any s y hs hy w)
      obtain ⟨n2, hn2⟩ : ∃ n, bnd z d = n := ⟨_, rfl⟩
      obtain ⟨n3, hn3⟩ : ∃ n, bnd s y = n := ⟨_, rfl⟩
      have m2 : n ≤ n2 := by rw [← hn, ← hn2]; exact bnd_mono (by omega)
      have m3 : n ≤ n3 := by
        rw [← hn, ← hn3]
        exact hbet (by omega)
      rw [hn2] at P2
      rw [hn3] at P3
      have q2 : (n : Int) ≤ (n2 : Int) := by omega
      have q3 : (n : Int) ≤ (n3 : Int) := by omega
      have HE := Lib.hid (And.intro ez ey)
      clear hn hn2 hn3 hbet ez ey
      by_cases h0 : s = 0
      · have g0 : ((s : Int) == 0) = true := by simp; omega
        have g00 : ¬ (n : Int) < (s : Int) := by omega
        have g01 : ((n : Int) == 0) = true := by simp; omega
        have HZ0 := Lib.hid h0
        clear h0
        go_enter Try.func7, Try.ntmps7
        go_wp2_with fail
        refine (shown_any _).mono ?_
        rintro e w1 ⟨rfl, hb1⟩
        have HB1 := Lib.hid hb1
        clear hb1
        go_wp2_with fail
        refine (P1.out _).mono ?_
        rintro e w2 ⟨rfl, hb2⟩
        have HB2 := Lib.hid (HB1.out.trans (hb2.mono HB1.out.size))
        clear hb2
        go_wp2_with fail
        refine (P2.out _).mono ?_
        rintro e w3 ⟨rfl, hb3⟩
        have HB3 := Lib.hid (HB2.out.trans (hb3.mono HB2.out.size))
        clear hb3
        go_wp2_with fail
        refine (P3.out _).mono ?_
        rintro e w4 ⟨rfl, hb4⟩
        have HB4 := Lib.hid (HB3.out.trans (hb4.mono HB3.out.size))
        clear hb4
        go_wp2_with fail
        go_ret
        exact ⟨by first | rfl | simp, HB4.out⟩
      · have g0 : ((s : Int) == 0) = false := by simp; omega
        have g00 : (n : Int) < (s : Int) := by omega
        go_enter Try.func7, Try.ntmps7
        go_wp2_with fail
        refine (shown_any _).mono ?_
        rintro e w1 ⟨rfl, hb1⟩
        have HB1 := Lib.hid hb1
        clear hb1
        go_wp2_with fail
        refine (P1.out _).mono ?_
        rintro e w2 ⟨rfl, hb2⟩
        have HB2 := Lib.hid (HB1.out.trans (hb2.mono HB1.out.size))
        clear hb2
        go_wp2_with fail
        refine (P2.out _).mono ?_
        rintro e w3 ⟨rfl, hb3⟩
        have HB3 := Lib.hid (HB2.out.trans (hb3.mono HB2.out.size))
        clear hb3
        go_wp2_with fail
        refine (P3.out _).mono ?_
        rintro e w4 ⟨rfl, hb4⟩
        have HB4 := Lib.hid (HB3.out.trans (hb4.mono HB3.out.size))
        clear hb4
        go_wp2_with fail
        go_ret
        exact ⟨by first | rfl | simp, HB4.out⟩
end Go.Proofs.Ytoabpakichjieaa
