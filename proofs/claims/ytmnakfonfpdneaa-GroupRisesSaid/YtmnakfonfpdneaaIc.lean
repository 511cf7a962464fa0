/- GroupChanges, GroupMay. -/
import Derived.Test.YtmnakfonfpdneaaIb
import Derived.Test.YtmnakfonfpdneaaGw
namespace Go.Proofs.Ytmnakfonfpdneaa
open Go.RowKit

theorem nxt_small {V L : List Nat} {kd : Int} {id : Nat} : (nxtF V L kd id).1.1.length ≤ 140737488351232 ∧ (nxtF V L kd id).1.2.length ≤ 140737488351232 := by
  unfold nxtF
  by_cases h : (mayB V L && decide (1 ≤ id ∧ id ≤ 63)) = true
  · rw [if_pos h]
    simp only [Bool.and_eq_true] at h
    have hm := (mayB_iff.1 h.1).1
    have h1 : ∀ M : List Nat, (lessN id M).length ≤ M.length := fun M => List.length_filter_le _ _
    have h2 := h1 V
    have h3 := h1 L
    have h4 := putN_len id V
    have h5 := putN_len id L
    unfold lrnF votF levF
    (repeat' split) <;> simp only [List.length_nil] <;> omega
  · rw [if_neg h]; simp
set_option maxRecDepth 100000 in
set_option maxHeartbeats 4000000 in
theorem law_GroupChanges (id n c n2 c2 : Nat) (kd : Int) (a a2 : Option Addr) (V L : List Nat) (hn : V.length = n) (hl : n ≤ 140737488351232) (hn2 : L.length = n2) (hl2 : n2 ≤ 140737488351232) (w : World) (hV : Us w a V) (hU : Us w a2 L) :
    Calls Try.prog 5 #[.agg #[.slice a n c, .slice a2 n2 c2], .agg #[.int .i64 kd, .int .u64 id]] w fun e w' => e = .returned (.bool true) ∧ Below w.heap.size w w' := by
  have B0 : Below w.heap.size w ((w.alloc (.cells #[.slice a n c, .slice a2 n2 c2] 24)).alloc (.cells #[.int .i64 kd, .int .u64 id] 34)) := by go_grown
  have C0 := Lib.hid ((Cb.new (w := w) rfl (.slice a n c) (.slice a2 n2 c2) 24).past (.cells #[.int .i64 kd, .int .u64 id] 34))
  have X0 := Cb.new (w := w.alloc (.cells #[.slice a n c, .slice a2 n2 c2] 24)) rfl (.int .i64 kd) (.int .u64 id) 34
  have es : (w.alloc (.cells #[.slice a n c, .slice a2 n2 c2] 24)).heap.size = w.heap.size + 1 := by simp
  rw [es] at X0
  have HX := Lib.hid X0
  have HB0 := Lib.hid B0
  have HN := Lib.hid hn
  have HN2 := Lib.hid hn2
  have HV := Lib.hid hV
  have HU := Lib.hid hU
  obtain ⟨r, hr⟩ : ∃ r, nxtF V L kd id = r := ⟨_, rfl⟩
  have HR := Lib.hid hr
  have HRL := Lib.hid (show r.1.1.length ≤ 140737488351232 ∧ r.1.2.length ≤ 140737488351232 by rw [← hr]; exact nxt_small)
  clear hn hn2 hV hU hr B0 X0 es
  go_enter Try.func5, Try.ntmps5
  go_wp2_with fail
  refine (shown_any _).mono ?_
  rintro e w1 ⟨rfl, hb1⟩
  have HC1 := Lib.hid (C0.out.later hb1)
  have HX1 := Lib.hid (HX.out.later hb1)
  have HB1 := Lib.hid (HB0.out.trans (hb1.mono HB0.out.size))
  clear hb1 C0 HX HB0
  obtain ⟨c0, c1, _, _⟩ := HC1.out
  obtain ⟨x0, x1, _, _⟩ := HX1.out
  go_wp2_with fail
  refine (pNext_any id n c n2 c2 kd a a2 V L HN.out hl HN2.out hl2 _ (HV.out.later HB1.out) (HU.out.later HB1.out)).mono ?_
  intro e w2 hnx
  rw [HR.out] at hnx
  obtain ⟨a3, c3, a4, c4, rfl, hU3, hU4, _, _, hb2⟩ := hnx
  have HC2 := Lib.hid (HC1.out.later hb2)
  have HX2 := Lib.hid (HX1.out.later hb2)
  have HB2 := Lib.hid (HB1.out.trans (hb2.mono HB1.out.size))
  obtain ⟨m3, hm3⟩ : ∃ m, r.1.1.length = m := ⟨_, rfl⟩
  obtain ⟨m4, hm4⟩ : ∃ m, r.1.2.length = m := ⟨_, rfl⟩
  have HM3 := Lib.hid hm3
  have HM4 := Lib.hid hm4
  rw [hm3, hm4]
  have HU3 := Lib.hid (hU3.later ((Below.refl _ _).alloc (Nat.le_refl _) (.cells #[.slice a3 m3 c3, .slice a4 m4 c4] 24)))
  have HU4 := Lib.hid (hU4.later ((Below.refl _ _).alloc (Nat.le_refl _) (.cells #[.slice a3 m3 c3, .slice a4 m4 c4] 24)))
  have HD := Lib.hid (Cb.new (w := w2) rfl (.slice a3 m3 c3) (.slice a4 m4 c4) 24)
  have HB3 := Lib.hid (HB2.out.alloc HB2.out.size (.cells #[.slice a3 m3 c3, .slice a4 m4 c4] 24))
  have HC3 := Lib.hid (HC2.out.past (.cells #[.slice a3 m3 c3, .slice a4 m4 c4] 24))
  have HX3 := Lib.hid (HX2.out.past (.cells #[.slice a3 m3 c3, .slice a4 m4 c4] 24))
  clear c0 c1 x0 x1 hm3 hm4 hU3 hU4 hb2 HC1 HX1 HB1 HC2 HX2
  obtain ⟨c0, c1, _, cl⟩ := HC3.out
  obtain ⟨x0, x1, _, xl⟩ := HX3.out
  go_wp2_with fail
  refine (rNext_any id n c n2 c2 kd a a2 V L HN.out hl HN2.out hl2 _ (HV.out.later HB3.out) (HU.out.later HB3.out)).mono ?_
  intro e w4 hnx
  rw [HR.out] at hnx
  obtain ⟨a5, c5, a6, c6, rfl, hU5, hU6, _, _, hb4⟩ := hnx
  rw [HM3.out, HM4.out]
  have HB4 := Lib.hid (HB3.out.trans (hb4.mono HB3.out.size))
  have HD4 := Lib.hid (HD.out.later hb4)
  have HU34 := Lib.hid (And.intro (HU3.out.later hb4) (HU4.out.later hb4))
  have HU56 := Lib.hid (And.intro hU5 hU6)
  have hsz : w2.heap.size < w4.heap.size := HD4.out.lt
  clear c0 c1 cl x0 x1 xl hU5 hU6 hb4 HC3 HX3 HD HU3 HU4
  obtain ⟨d0, d1, _, dl⟩ := HD4.out
  go_wp2_with fail
  have HBA : Below w4.heap.size w4 (w4.alloc (.cells #[.slice a5 m3 c5, .slice a6 m4 c6] 24)) := (Below.refl _ _).alloc (Nat.le_refl _) _
  have HB5 := Lib.hid (HB4.out.alloc HB4.out.size (.cells #[.slice a5 m3 c5, .slice a6 m4 c6] 24))
  refine (rSame_any m3 c3 m4 c4 c5 c6 a3 a5 a4 a6 r.1.1 r.1.2 HM3.out (by rw [← HM3.out]; exact HRL.out.1) HM4.out (by rw [← HM4.out]; exact HRL.out.2) _ (HU34.out.1.later HBA) (HU34.out.2.later HBA) (HU56.out.1.later HBA) (HU56.out.2.later HBA)).mono ?_
  rintro e w6 ⟨rfl, hb6⟩
  have HB6 := Lib.hid (HB5.out.trans (hb6.mono HB5.out.size))
  obtain ⟨k, hk⟩ : ∃ k, r.2 = k := ⟨_, rfl⟩
  rw [hk]
  clear hb6 HBA d0 d1 dl hk
  go_wp2_with fail
  go_ret
  exact ⟨by first | rfl | simp, HB6.out⟩
set_option maxRecDepth 100000 in
set_option maxHeartbeats 8000000 in
theorem law_GroupMay (n c n2 c2 m d : Nat) (a a2 a3 : Option Addr) (V L I : List Nat) (hn : V.length = n) (hl : n ≤ 140737488351232) (hc : n ≤ c) (hcm : c ≤ 9223372036854775807) (hn2 : L.length = n2) (hl2 : n2 ≤ 140737488351232) (hm : I.length = m) (hl3 : m ≤ 140737488351232) (hb1 : ∀ x ∈ V, x < 18446744073709551616) (hb2 : ∀ x ∈ I, x < 18446744073709551616) (w : World) (hV : Us w a V) (hU : Us w a2 L) (hI : Us w a3 I) :
    Calls Try.prog 3 #[.agg #[.slice a n c, .slice a2 n2 c2], .slice a3 m d] w fun e w' => e = .returned (.bool true) ∧ Below w.heap.size w w' := by
  have B0 : Below w.heap.size w (w.alloc (.cells #[.slice a n c, .slice a2 n2 c2] 24)) := (Below.refl _ _).alloc (Nat.le_refl _) _
  have C0 := Lib.hid (Cb.new (w := w) rfl (.slice a n c) (.slice a2 n2 c2) 24)
  have HB0 := Lib.hid B0
  have HN := Lib.hid hn
  have HN2 := Lib.hid hn2
  have HM := Lib.hid hm
  have HV := Lib.hid hV
  have HU := Lib.hid hU
  have HI := Lib.hid hI
  have HB1' := Lib.hid hb1
  have HB2' := Lib.hid hb2
  obtain ⟨mb, hmb⟩ : ∃ g, mayB V L = g := ⟨_, rfl⟩
  obtain ⟨mo, hmo⟩ : ∃ g, mostB V I = g := ⟨_, rfl⟩
  have HMB := Lib.hid hmb
  have HMO := Lib.hid hmo
  clear hn hn2 hm hV hU hI hb1 hb2 hmb hmo B0
  go_enter Try.func3, Try.ntmps3
  go_wp2_with fail
  refine (shown_any _).mono ?_
  rintro e w1 ⟨rfl, hb1⟩
  obtain ⟨c0, c1, _, cl⟩ := C0.out.later hb1
  have HB1 := Lib.hid (HB0.out.trans (hb1.mono HB0.out.size))
  clear hb1
  go_wp2_with fail
  have K1 : w1.drew.cell? ⟨w.heap.size, 0, none⟩ = some (.slice a n c) ∧ w1.drew.cell? ⟨w.heap.size, 1, none⟩ = some (.slice a2 n2 c2) ∧ w.heap.size < w1.drew.heap.size ∧ Below w.heap.size w w1.drew := ⟨c0, c1, cl, HB1.out.drew⟩
  clear c0 c1 cl
  have q1 : IntKind.i64.wrap ((n : Int) / 2) = (n : Int) / 2 := IntWalk.i64_in _ (by omega)
  have q2 : IntKind.i64.wrap ((n : Int) / 2 + 1) = (n : Int) / 2 + 1 := IntWalk.i64_in _ (by omega)
  go_region_held3 (fun w' => w'.cell? ⟨w.heap.size, 0, none⟩ = some (.slice a n c) ∧ w'.cell? ⟨w.heap.size, 1, none⟩ = some (.slice a2 n2 c2) ∧ w.heap.size < w'.heap.size ∧ Below w.heap.size w w')
    (first | (with_reducible assumption) | go_keep)
    (first
      | (go_at_call 10; (with_reducible refine (pMay_any n c n2 c2 a a2 V L HN.out hl HN2.out hl2 _ (HV.out.later K1.2.2.2) (HU.out.later K1.2.2.2)).mono ?_); rintro e w2 ⟨rfl, hb2⟩; rw [HMB.out]; have K2 := keepC K1 hb2)
      | (go_at_call 11; (with_reducible refine (rMay_any n c n2 c2 a a2 V L HN.out hl HN2.out hl2 _ (HV.out.later K2.2.2.2) (HU.out.later K2.2.2.2)).mono ?_); rintro e w3 ⟨rfl, hb3⟩; rw [HMB.out]; have K3 := keepC K2 hb3)
      | (go_at_call 12; (with_reducible refine (pNeed_any n c n2 c2 a a2 hl _).mono ?_); rintro e w4 ⟨rfl, hb4⟩; have K4 := keepC K3 hb4)
      | (go_at_call 13; (with_reducible refine (pMost_any n c n2 c2 m d a a2 a3 V I HN.out hl HM.out hl3 HB1'.out HB2'.out _ (HV.out.later K4.2.2.2) (HI.out.later K4.2.2.2)).mono ?_); rintro e w5 ⟨rfl, hb5⟩; rw [HMO.out]; have K5 := keepC K4 hb5)
      | (go_at_call 14; (with_reducible refine (rMost_any n c n2 c2 m d a a2 a3 V I HN.out hl hc hcm HM.out hl3 _ (HV.out.later K5.2.2.2) (HI.out.later K5.2.2.2)).mono ?_); rintro e w6 ⟨rfl, hb6⟩; rw [HMO.out]; have K6 := keepC K5 hb6))
  all_goals
    have B9 := K6.2.2.2
    clear K1 K2 K3 K4 K5 K6
    go_wp2_with fail
    go_ret
    exact ⟨by simp, B9⟩
end Go.Proofs.Ytmnakfonfpdneaa
