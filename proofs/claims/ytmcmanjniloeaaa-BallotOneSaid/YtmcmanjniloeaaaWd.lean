/- The document's example, which stands at the head of all statements; BallotAnswers. -/
import Derived.Test.YtmcmanjniloeaaaWc
namespace Go.Proofs.Ytmcmanjniloeaaa
open Go.RowKit

theorem ans_up1 : ansS ⟨3, 0, 1, 2, false⟩ ⟨4, 5, 1, 2, false⟩ = (⟨4, 5, 1, 2, false⟩, true) := by simp [ansS, openB, newB]
theorem ans_up2 : ansS ⟨4, 5, 1, 2, false⟩ ⟨4, 6, 9, 9, false⟩ = (⟨4, 5, 1, 2, false⟩, false) := by simp [ansS, openB, newB]
set_option maxRecDepth 100000 in
set_option maxHeartbeats 4000000 in
theorem shown_any (w : World) : Calls Try.prog 8 #[] w fun e w' => e = .returned (.bool true) ∧ Below w.heap.size w w' := by
  go_enter Try.func8, Try.ntmps8
  go_wp2_with fail
  refine (pAnswer_any 3 0 1 2 false 4 5 1 2 false _).mono ?_
  intro e w1 h1
  rw [ans_up1] at h1
  obtain ⟨rfl, hb1⟩ := h1
  have HB1 := Lib.hid hb1
  clear hb1
  go_wp2_with fail
  have HS := Lib.hid (B5.new (w := w1) rfl 4 5 1 2 false 24)
  have HB2 := Lib.hid (HB1.out.alloc HB1.out.size (.cells #[.int .u64 4, .int .u64 5, .int .u64 1, .int .u64 2, .bool false] 24))
  refine (pAnswer_any 4 5 1 2 false 4 6 9 9 false _).mono ?_
  intro e w2 h2
  rw [ans_up2] at h2
  obtain ⟨rfl, hb2⟩ := h2
  obtain ⟨s0, s1, s2, s3, s4, sz, sl⟩ := HS.out.later hb2
  have HB3 := Lib.hid (HB2.out.trans (Below.mono hb2 HB2.out.size))
  clear hb2
  go_wp2_with fail
  go_ret
  exact ⟨by first | rfl | simp, HB3.out.alloc HB3.out.size _⟩

set_option maxRecDepth 100000 in
set_option maxHeartbeats 4000000 in
theorem law_BallotAnswers (t v lt li : Nat) (h : Bool) (at' fr alt ali : Nat) (p : Bool) (w : World) :
    Calls Try.prog 3 #[v5 t v lt li h, v5 at' fr alt ali p] w fun e w' => e = .returned (.bool true) ∧ Below w.heap.size w w' := by
  obtain ⟨r, hr⟩ : ∃ r, ansS ⟨t, v, lt, li, h⟩ ⟨at', fr, alt, ali, p⟩ = r := ⟨_, rfl⟩
  have HR := Lib.hid hr
  clear hr
  have HB0 := Lib.hid (show Below w.heap.size w ((w.alloc (.cells #[.int .u64 t, .int .u64 v, .int .u64 lt, .int .u64 li, .bool h] 24)).alloc (.cells #[.int .u64 at', .int .u64 fr, .int .u64 alt, .int .u64 ali, .bool p] 26)) by go_grown)
  have HS0 := Lib.hid ((B5.new (w := w) rfl t v lt li h 24).past (.cells #[.int .u64 at', .int .u64 fr, .int .u64 alt, .int .u64 ali, .bool p] 26))
  have HA0 := Lib.hid (B5.new (w := w.alloc (.cells #[.int .u64 t, .int .u64 v, .int .u64 lt, .int .u64 li, .bool h] 24)) (x := w.heap.size + 1) (by simp) at' fr alt ali p 26)
  go_enter Try.func3, Try.ntmps3
  go_wp2_with fail
  generalize ((w.alloc (.cells #[.int .u64 t, .int .u64 v, .int .u64 lt, .int .u64 li, .bool h] 24)).alloc (.cells #[.int .u64 at', .int .u64 fr, .int .u64 alt, .int .u64 ali, .bool p] 26)) = W at *
  refine (shown_any _).mono ?_
  rintro e w1 ⟨rfl, hb1⟩
  have HS1 := Lib.hid (HS0.out.later hb1)
  have HA1 := Lib.hid (HA0.out.later hb1)
  have HB1 := Lib.hid (HB0.out.trans (hb1.mono HB0.out.size))
  clear hb1
  obtain ⟨s0, s1, s2, s3, s4, sz, sl⟩ := HS1.out
  obtain ⟨a0, a1, a2, a3, a4, az, al⟩ := HA1.out
  go_wp2_with fail
  refine (pAnswer_any t v lt li h at' fr alt ali p _).mono ?_
  intro e w2 h2
  rw [HR.out] at h2
  obtain ⟨⟨rt, rv, rlt, rli, rh⟩, ro⟩ := r
  obtain ⟨rfl, hb2⟩ := h2
  have HS2 := Lib.hid ((HS1.out.later hb2).past (.cells #[.int .u64 rt, .int .u64 rv, .int .u64 rlt, .int .u64 rli, .bool rh] 24))
  have HA2 := Lib.hid ((HA1.out.later hb2).past (.cells #[.int .u64 rt, .int .u64 rv, .int .u64 rlt, .int .u64 rli, .bool rh] 24))
  have HB2 := Lib.hid ((HB1.out.trans (Below.mono hb2 HB1.out.size)).alloc (HB1.out.trans (Below.mono hb2 HB1.out.size)).size (.cells #[.int .u64 rt, .int .u64 rv, .int .u64 rlt, .int .u64 rli, .bool rh] 24))
  have HT2 := Lib.hid (B5.new (w := w2) rfl rt rv rlt rli rh 24)
  clear s0 s1 s2 s3 s4 sz sl a0 a1 a2 a3 a4 az al HS1 HA1
  obtain ⟨s0, s1, s2, s3, s4, sz, sl⟩ := HS2.out
  obtain ⟨a0, a1, a2, a3, a4, az, al⟩ := HA2.out
  simp only at *
  go_wp2_with fail
  generalize (w2.alloc (.cells #[.int .u64 rt, .int .u64 rv, .int .u64 rlt, .int .u64 rli, .bool rh] 24)) = W2 at *
  refine (rAnswer_any t v lt li h at' fr alt ali p _).mono ?_
  intro e w3 h3
  rw [HR.out] at h3
  obtain ⟨rfl, hb3⟩ := h3
  simp only at *
  have HT3 := Lib.hid ((HT2.out.later hb3).past (.cells #[.int .u64 rt, .int .u64 rv, .int .u64 rlt, .int .u64 rli, .bool rh] 24))
  have HU3 := Lib.hid (B5.new (w := w3) rfl rt rv rlt rli rh 24)
  have HB3 := Lib.hid ((HB2.out.trans (Below.mono hb3 HB2.out.size)).alloc (HB2.out.trans (Below.mono hb3 HB2.out.size)).size (.cells #[.int .u64 rt, .int .u64 rv, .int .u64 rlt, .int .u64 rli, .bool rh] 24))
  clear s0 s1 s2 s3 s4 sz sl a0 a1 a2 a3 a4 az al HS2 HA2
  obtain ⟨t0, t1, t2, t3, t4, tz, tl⟩ := HT3.out
  obtain ⟨u0, u1, u2, u3, u4, uz, ul⟩ := HU3.out
  go_wp2_with fail
  go_ret
  exact ⟨by first | rfl | simp, HB3.out⟩
end Go.Proofs.Ytmcmanjniloeaaa
