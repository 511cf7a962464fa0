/- GroupMeets. -/
import Derived.Test.YtmnakfonfpdneaaId
namespace Go.Proofs.Ytmnakfonfpdneaa
open Go.RowKit

set_option maxRecDepth 100000 in
set_option maxHeartbeats 8000000 in
theorem law_GroupMeets (id n c n2 c2 m d m2 d2 : Nat) (kd : Int) (a a2 a3 a4 : Option Addr) (V L A B : List Nat) (hn : V.length = n) (hl : n ≤ 140737488351232) (hn2 : L.length = n2) (hl2 : n2 ≤ 140737488351232) (hm : A.length = m) (hl3 : m ≤ 140737488351232) (hm2 : B.length = m2) (hl4 : m2 ≤ 140737488351232)
    (hb1 : ∀ x ∈ V, x < 18446744073709551616) (hb2 : ∀ x ∈ A, x < 18446744073709551616) (hb3 : ∀ x ∈ B, x < 18446744073709551616) (w : World) (hV : Us w a V) (hU : Us w a2 L) (hA : Us w a3 A) (hB : Us w a4 B) :
    Calls Try.prog 7 #[.agg #[.slice a n c, .slice a2 n2 c2, .int .i64 kd, .int .u64 id, .slice a3 m d, .slice a4 m2 d2]] w fun e w' => e = .returned (.bool true) ∧ Below w.heap.size w w' := by
  have B0 : Below w.heap.size w (((w.alloc (.cells #[.slice a n c, .slice a2 n2 c2, .int .i64 kd, .int .u64 id, .slice a3 m d, .slice a4 m2 d2] 48)).alloc (.cells #[.slice a n c, .slice a2 n2 c2] 24)).alloc (.cells #[.int .i64 kd, .int .u64 id] 34)) := by go_grown
  have C0 := (Cb.new (w := w.alloc (.cells #[.slice a n c, .slice a2 n2 c2, .int .i64 kd, .int .u64 id, .slice a3 m d, .slice a4 m2 d2] 48)) rfl (.slice a n c) (.slice a2 n2 c2) 24).past (.cells #[.int .i64 kd, .int .u64 id] 34)
  have X0 := Cb.new (w := (w.alloc (.cells #[.slice a n c, .slice a2 n2 c2, .int .i64 kd, .int .u64 id, .slice a3 m d, .slice a4 m2 d2] 48)).alloc (.cells #[.slice a n c, .slice a2 n2 c2] 24)) rfl (.int .i64 kd) (.int .u64 id) 34
  have es : (w.alloc (.cells #[.slice a n c, .slice a2 n2 c2, .int .i64 kd, .int .u64 id, .slice a3 m d, .slice a4 m2 d2] 48)).heap.size = w.heap.size + 1 := by simp
  have es2 : ((w.alloc (.cells #[.slice a n c, .slice a2 n2 c2, .int .i64 kd, .int .u64 id, .slice a3 m d, .slice a4 m2 d2] 48)).alloc (.cells #[.slice a n c, .slice a2 n2 c2] 24)).heap.size = w.heap.size + 1 + 1 := by simp
  rw [es] at C0
  rw [es2] at X0
  have HC := Lib.hid C0
  have HX := Lib.hid X0
  have HB0 := Lib.hid B0
  have HN := Lib.hid hn
  have HN2 := Lib.hid hn2
  have HM := Lib.hid hm
  have HM2 := Lib.hid hm2
  have HV := Lib.hid hV
  have HU := Lib.hid hU
  have HA := Lib.hid hA
  have HBB := Lib.hid hB
  have HQ1 := Lib.hid hb1
  have HQ2 := Lib.hid hb2
  have HQ3 := Lib.hid hb3
  obtain ⟨mb, hmb⟩ : ∃ g, mayB V L = g := ⟨_, rfl⟩
  obtain ⟨x1, hx1⟩ : ∃ g, mostB V A = g := ⟨_, rfl⟩
  obtain ⟨x2, hx2⟩ : ∃ g, mostB V B = g := ⟨_, rfl⟩
  obtain ⟨x3, hx3⟩ : ∃ g, bothN B A = g := ⟨_, rfl⟩
  obtain ⟨r, hr⟩ : ∃ r, nxtF V L kd id = r := ⟨_, rfl⟩
  obtain ⟨x4, hx4⟩ : ∃ g, mostB r.1.1 B = g := ⟨_, rfl⟩
  have HMB := Lib.hid hmb
  have HX1 := Lib.hid hx1
  have HX2 := Lib.hid hx2
  have HX3 := Lib.hid hx3
  have HX4 := Lib.hid hx4
  have HR := Lib.hid hr
  clear hn hn2 hm hm2 hV hU hA hB hb1 hb2 hb3 hmb hx1 hx2 hx3 hx4 hr es es2 B0 C0 X0
  go_enter Try.func7, Try.ntmps7
  go_wp2_with fail
  refine (shown_any _).mono ?_
  rintro e w1 ⟨rfl, hb1⟩
  have HC1 := Lib.hid (HC.out.later hb1)
  have HXX1 := Lib.hid (HX.out.later hb1)
  have HB1 := Lib.hid (HB0.out.trans (hb1.mono HB0.out.size))
  clear hb1 HC HX HB0
  obtain ⟨c0, c1, _, _⟩ := HC1.out
  go_wp2_with fail
  refine (pMay_any n c n2 c2 a a2 V L HN.out hl HN2.out hl2 _ (HV.out.later HB1.out) (HU.out.later HB1.out)).mono ?_
  rintro e w2 ⟨rfl, hb2⟩
  rw [HMB.out]
  have HC2 := Lib.hid (HC1.out.later hb2)
  have HXX2 := Lib.hid (HXX1.out.later hb2)
  have HB2 := Lib.hid (HB1.out.trans (hb2.mono HB1.out.size))
  clear hb2 c0 c1 HC1 HXX1
  obtain ⟨c0, c1, _, _⟩ := HC2.out
  cases mb
  case false =>
    go_wp2_with fail
    go_ret
    exact ⟨by first | rfl | simp, HB2.out⟩
  go_wp2_with fail
  refine (pMost_any n c n2 c2 m d a a2 a3 V A HN.out hl HM.out hl3 HQ1.out HQ2.out _ (HV.out.later HB2.out) (HA.out.later HB2.out)).mono ?_
  rintro e w3 ⟨rfl, hb3⟩
  rw [HX1.out]
  have HC3 := Lib.hid (HC2.out.later hb3)
  have HXX3 := Lib.hid (HXX2.out.later hb3)
  have HB3 := Lib.hid (HB2.out.trans (hb3.mono HB2.out.size))
  clear hb3 c0 c1 HC2 HXX2
  obtain ⟨c0, c1, _, _⟩ := HC3.out
  go_wp2_with fail
  refine (pMost_any n c n2 c2 m2 d2 a a2 a4 V B HN.out hl HM2.out hl4 HQ1.out HQ3.out _ (HV.out.later HB3.out) (HBB.out.later HB3.out)).mono ?_
  rintro e w4 ⟨rfl, hb4⟩
  rw [HX2.out]
  have HC4 := Lib.hid (HC3.out.later hb4)
  have HXX4 := Lib.hid (HXX3.out.later hb4)
  have HB4 := Lib.hid (HB3.out.trans (hb4.mono HB3.out.size))
  clear hb4 c0 c1 HC3 HXX3
  go_wp2_with fail
  refine (common_any m d m2 d2 a3 a4 A B HM.out hl3 HM2.out hl4 _ (HA.out.later HB4.out) (HBB.out.later HB4.out)).mono ?_
  rintro e w5 ⟨rfl, rfl⟩
  rw [HX3.out]
  obtain ⟨c0, c1, _, _⟩ := HC4.out
  obtain ⟨p0, p1, _, _⟩ := HXX4.out
  cases x1
  · -- no majority
    go_wp2_with fail
    refine (pNext_any id n c n2 c2 kd a a2 V L HN.out hl HN2.out hl2 _ (HV.out.later HB4.out) (HU.out.later HB4.out)).mono ?_
    intro e w6 hnx
    rw [HR.out] at hnx
    obtain ⟨a5, c5, a6, c6, rfl, hU5, hU6, _, _, hb6⟩ := hnx
    have HB6 := Lib.hid (HB4.out.trans (hb6.mono HB4.out.size))
    obtain ⟨r1, hr1⟩ : ∃ x, r.1.1 = x := ⟨_, rfl⟩
    obtain ⟨r2, hr2⟩ : ∃ x, r.1.2 = x := ⟨_, rfl⟩
    obtain ⟨rk, hrk⟩ : ∃ x, r.2 = x := ⟨_, rfl⟩
    rw [hr1] at hU5
    rw [hr2] at hU6
    rw [hr1, hr2, hrk]
    have HR1 := Lib.hid (show (nxtF V L kd id).1.1 = r1 by rw [HR.out, hr1])
    have HR2 := Lib.hid (show (nxtF V L kd id).1.2 = r2 by rw [HR.out, hr2])
    have HRK := Lib.hid (show (nxtF V L kd id).2 = rk by rw [HR.out, hrk])
    have HM4 := Lib.hid (show mostB r1 B = x4 by rw [← hr1]; exact HX4.out)
    have HU56 := Lib.hid (And.intro hU5 hU6)
    obtain ⟨q1, hq1⟩ : ∃ x, r1.length = x := ⟨_, rfl⟩
    obtain ⟨q2, hq2⟩ : ∃ x, r2.length = x := ⟨_, rfl⟩
    rw [hq1, hq2]
    have HQL1 := Lib.hid hq1
    have HQL2 := Lib.hid hq2
    clear hr1 hr2 hrk hU5 hU6 hb6 hq1 hq2 c0 c1 p0 p1
    by_cases hk : rk = 0
    case neg =>
      have g : (rk == 0) = false := by simpa using hk
      clear hk
      go_wp2_with fail
      go_ret
      exact ⟨by first | rfl | simp, HB6.out.alloc HB6.out.size _⟩
    have HNM := Lib.hid (show mayB r1 r2 = true from by have h := (next_may (HRK.out.trans hk)).1; rw [HR1.out, HR2.out] at h; exact h)
    have HRK0 := Lib.hid (HRK.out.trans hk)
    subst hk
    have HBA : Below w6.heap.size w6 (w6.alloc (.cells #[.slice a5 q1 c5, .slice a6 q2 c6] 24)) := (Below.refl _ _).alloc (Nat.le_refl _) _
    have HD7 := Lib.hid (Cb.new (w := w6) rfl (.slice a5 q1 c5) (.slice a6 q2 c6) 24)
    have HB7 := Lib.hid (HB6.out.alloc HB6.out.size (.cells #[.slice a5 q1 c5, .slice a6 q2 c6] 24))
    have HU7 := Lib.hid (And.intro (HU56.out.1.later HBA) (HU56.out.2.later HBA))
    clear HBA
    go_wp2_with fail
    refine (pMay_any q1 c5 q2 c6 a5 a6 r1 r2 HQL1.out (by have := (mayB_iff.1 HNM.out).1; have := HQL1.out; omega) HQL2.out (by have := (mayB_iff.1 HNM.out).1; have := HQL2.out; omega) _ HU7.out.1 HU7.out.2).mono ?_
    rintro e w8 ⟨rfl, hb8⟩
    rw [HNM.out]
    have HD8 := Lib.hid (HD7.out.later hb8)
    have HB8 := Lib.hid (HB7.out.trans (hb8.mono HB7.out.size))
    have HU8 := Lib.hid (HU7.out.1.later hb8)
    clear hb8
    obtain ⟨d0, d1, _, _⟩ := HD8.out
    go_wp2_with fail
    refine (pMost_any q1 c5 q2 c6 m2 d2 a5 a6 a4 r1 B HQL1.out (by have := (mayB_iff.1 HNM.out).1; have := HQL1.out; omega) HM2.out hl4 (fun x hx => by have := (mayB_iff.1 HNM.out).2.1 x hx; omega) HQ3.out _ HU8.out (HBB.out.later HB8.out)).mono ?_
    rintro e w9 ⟨rfl, hb9⟩
    rw [HM4.out]
    have HB9 := Lib.hid (HB8.out.trans (hb9.mono HB8.out.size))
    clear hb9 d0 d1
    go_wp2_with fail
    go_ret
    exact ⟨by first | rfl | simp, HB9.out⟩
  · cases x2
    · -- one majority alone
      go_wp2_with fail
      refine (pNext_any id n c n2 c2 kd a a2 V L HN.out hl HN2.out hl2 _ (HV.out.later HB4.out) (HU.out.later HB4.out)).mono ?_
      intro e w6 hnx
      rw [HR.out] at hnx
      obtain ⟨a5, c5, a6, c6, rfl, hU5, hU6, _, _, hb6⟩ := hnx
      have HB6 := Lib.hid (HB4.out.trans (hb6.mono HB4.out.size))
      obtain ⟨r1, hr1⟩ : ∃ x, r.1.1 = x := ⟨_, rfl⟩
      obtain ⟨r2, hr2⟩ : ∃ x, r.1.2 = x := ⟨_, rfl⟩
      obtain ⟨rk, hrk⟩ : ∃ x, r.2 = x := ⟨_, rfl⟩
      rw [hr1] at hU5
      rw [hr2] at hU6
      rw [hr1, hr2, hrk]
      have HR1 := Lib.hid (show (nxtF V L kd id).1.1 = r1 by rw [HR.out, hr1])
      have HR2 := Lib.hid (show (nxtF V L kd id).1.2 = r2 by rw [HR.out, hr2])
      have HRK := Lib.hid (show (nxtF V L kd id).2 = rk by rw [HR.out, hrk])
      have HM4 := Lib.hid (show mostB r1 B = x4 by rw [← hr1]; exact HX4.out)
      have HU56 := Lib.hid (And.intro hU5 hU6)
      obtain ⟨q1, hq1⟩ : ∃ x, r1.length = x := ⟨_, rfl⟩
      obtain ⟨q2, hq2⟩ : ∃ x, r2.length = x := ⟨_, rfl⟩
      rw [hq1, hq2]
      have HQL1 := Lib.hid hq1
      have HQL2 := Lib.hid hq2
      clear hr1 hr2 hrk hU5 hU6 hb6 hq1 hq2 c0 c1 p0 p1
      by_cases hk : rk = 0
      case neg =>
        have g : (rk == 0) = false := by simpa using hk
        clear hk
        go_wp2_with fail
        go_ret
        exact ⟨by first | rfl | simp, HB6.out.alloc HB6.out.size _⟩
      have HNM := Lib.hid (show mayB r1 r2 = true from by have h := (next_may (HRK.out.trans hk)).1; rw [HR1.out, HR2.out] at h; exact h)
      have HRK0 := Lib.hid (HRK.out.trans hk)
      subst hk
      have HBA : Below w6.heap.size w6 (w6.alloc (.cells #[.slice a5 q1 c5, .slice a6 q2 c6] 24)) := (Below.refl _ _).alloc (Nat.le_refl _) _
      have HD7 := Lib.hid (Cb.new (w := w6) rfl (.slice a5 q1 c5) (.slice a6 q2 c6) 24)
      have HB7 := Lib.hid (HB6.out.alloc HB6.out.size (.cells #[.slice a5 q1 c5, .slice a6 q2 c6] 24))
      have HU7 := Lib.hid (And.intro (HU56.out.1.later HBA) (HU56.out.2.later HBA))
      clear HBA
      go_wp2_with fail
      refine (pMay_any q1 c5 q2 c6 a5 a6 r1 r2 HQL1.out (by have := (mayB_iff.1 HNM.out).1; have := HQL1.out; omega) HQL2.out (by have := (mayB_iff.1 HNM.out).1; have := HQL2.out; omega) _ HU7.out.1 HU7.out.2).mono ?_
      rintro e w8 ⟨rfl, hb8⟩
      rw [HNM.out]
      have HD8 := Lib.hid (HD7.out.later hb8)
      have HB8 := Lib.hid (HB7.out.trans (hb8.mono HB7.out.size))
      have HU8 := Lib.hid (HU7.out.1.later hb8)
      clear hb8
      obtain ⟨d0, d1, _, _⟩ := HD8.out
      go_wp2_with fail
      refine (pMost_any q1 c5 q2 c6 m2 d2 a5 a6 a4 r1 B HQL1.out (by have := (mayB_iff.1 HNM.out).1; have := HQL1.out; omega) HM2.out hl4 (fun x hx => by have := (mayB_iff.1 HNM.out).2.1 x hx; omega) HQ3.out _ HU8.out (HBB.out.later HB8.out)).mono ?_
      rintro e w9 ⟨rfl, hb9⟩
      rw [HM4.out]
      have HB9 := Lib.hid (HB8.out.trans (hb9.mono HB8.out.size))
      clear hb9 d0 d1
      cases x4
      · go_wp2_with fail
        go_ret
        exact ⟨by first | rfl | simp, HB9.out⟩
      · obtain rfl : x3 = true := by rw [← HX3.out]; exact next_meets HMB.out HRK0.out HX1.out (by rw [HR1.out]; exact HM4.out)
        go_wp2_with fail
        go_ret
        exact ⟨by first | rfl | simp, HB9.out⟩
    · -- two majorities
      have HX3T := Lib.hid (show x3 = true by rw [← HX3.out]; exact same_meets HX1.out HX2.out)
      obtain rfl : x3 = true := HX3T.out
      go_wp2_with fail
      refine (pNext_any id n c n2 c2 kd a a2 V L HN.out hl HN2.out hl2 _ (HV.out.later HB4.out) (HU.out.later HB4.out)).mono ?_
      intro e w6 hnx
      rw [HR.out] at hnx
      obtain ⟨a5, c5, a6, c6, rfl, hU5, hU6, _, _, hb6⟩ := hnx
      have HB6 := Lib.hid (HB4.out.trans (hb6.mono HB4.out.size))
      obtain ⟨r1, hr1⟩ : ∃ x, r.1.1 = x := ⟨_, rfl⟩
      obtain ⟨r2, hr2⟩ : ∃ x, r.1.2 = x := ⟨_, rfl⟩
      obtain ⟨rk, hrk⟩ : ∃ x, r.2 = x := ⟨_, rfl⟩
      rw [hr1] at hU5
      rw [hr2] at hU6
      rw [hr1, hr2, hrk]
      have HR1 := Lib.hid (show (nxtF V L kd id).1.1 = r1 by rw [HR.out, hr1])
      have HR2 := Lib.hid (show (nxtF V L kd id).1.2 = r2 by rw [HR.out, hr2])
      have HRK := Lib.hid (show (nxtF V L kd id).2 = rk by rw [HR.out, hrk])
      have HM4 := Lib.hid (show mostB r1 B = x4 by rw [← hr1]; exact HX4.out)
      have HU56 := Lib.hid (And.intro hU5 hU6)
      obtain ⟨q1, hq1⟩ : ∃ x, r1.length = x := ⟨_, rfl⟩
      obtain ⟨q2, hq2⟩ : ∃ x, r2.length = x := ⟨_, rfl⟩
      rw [hq1, hq2]
      have HQL1 := Lib.hid hq1
      have HQL2 := Lib.hid hq2
      clear hr1 hr2 hrk hU5 hU6 hb6 hq1 hq2 c0 c1 p0 p1
      by_cases hk : rk = 0
      case neg =>
        have g : (rk == 0) = false := by simpa using hk
        clear hk
        go_wp2_with fail
        go_ret
        exact ⟨by first | rfl | simp, HB6.out.alloc HB6.out.size _⟩
      have HNM := Lib.hid (show mayB r1 r2 = true from by have h := (next_may (HRK.out.trans hk)).1; rw [HR1.out, HR2.out] at h; exact h)
      have HRK0 := Lib.hid (HRK.out.trans hk)
      subst hk
      have HBA : Below w6.heap.size w6 (w6.alloc (.cells #[.slice a5 q1 c5, .slice a6 q2 c6] 24)) := (Below.refl _ _).alloc (Nat.le_refl _) _
      have HD7 := Lib.hid (Cb.new (w := w6) rfl (.slice a5 q1 c5) (.slice a6 q2 c6) 24)
      have HB7 := Lib.hid (HB6.out.alloc HB6.out.size (.cells #[.slice a5 q1 c5, .slice a6 q2 c6] 24))
      have HU7 := Lib.hid (And.intro (HU56.out.1.later HBA) (HU56.out.2.later HBA))
      clear HBA
      go_wp2_with fail
      refine (pMay_any q1 c5 q2 c6 a5 a6 r1 r2 HQL1.out (by have := (mayB_iff.1 HNM.out).1; have := HQL1.out; omega) HQL2.out (by have := (mayB_iff.1 HNM.out).1; have := HQL2.out; omega) _ HU7.out.1 HU7.out.2).mono ?_
      rintro e w8 ⟨rfl, hb8⟩
      rw [HNM.out]
      have HD8 := Lib.hid (HD7.out.later hb8)
      have HB8 := Lib.hid (HB7.out.trans (hb8.mono HB7.out.size))
      have HU8 := Lib.hid (HU7.out.1.later hb8)
      clear hb8
      obtain ⟨d0, d1, _, _⟩ := HD8.out
      go_wp2_with fail
      refine (pMost_any q1 c5 q2 c6 m2 d2 a5 a6 a4 r1 B HQL1.out (by have := (mayB_iff.1 HNM.out).1; have := HQL1.out; omega) HM2.out hl4 (fun x hx => by have := (mayB_iff.1 HNM.out).2.1 x hx; omega) HQ3.out _ HU8.out (HBB.out.later HB8.out)).mono ?_
      rintro e w9 ⟨rfl, hb9⟩
      rw [HM4.out]
      have HB9 := Lib.hid (HB8.out.trans (hb9.mono HB8.out.size))
      clear hb9 d0 d1
      cases x4
      · go_wp2_with fail
        go_ret
        exact ⟨by first | rfl | simp, HB9.out⟩
      · go_wp2_with fail
        go_ret
        exact ⟨by first | rfl | simp, HB9.out⟩
end Go.Proofs.Ytmnakfonfpdneaa
