/- Which configurations may be: the program's May and Need, the document's May. -/
import Derived.Test.YtoabpakichjieaaGc
namespace Go.Proofs.Ytoabpakichjieaa
open Go.RowKit

/-- Which configurations may be. -/
def mayB (V L : List Nat) : Bool := decide (0 < V.length) && membB 7 V && membB 3 L && !bothN V L
set_option maxHeartbeats 2000000 in
theorem pMay_any (n c n2 c2 : Nat) (a a2 : Option Addr) (V L : List Nat) (hn : V.length = n) (hl : n ≤ 140737488351232) (hn2 : L.length = n2) (hl2 : n2 ≤ 140737488351232) (w : World) (hV : Us w a V) (hU : Us w a2 L) :
    Calls Try.prog 28 #[.agg #[.slice a n c, .slice a2 n2 c2]] w fun e w' => e = .returned (.bool (mayB V L)) ∧ Below w.heap.size w w' := by
  have B0 : Below w.heap.size w (w.alloc (.cells #[.slice a n c, .slice a2 n2 c2] 29)) := (Below.refl _ _).alloc (Nat.le_refl _) _
  have C0 := Cb.new (w := w) rfl (.slice a n c) (.slice a2 n2 c2) 29
  have HV := Lib.hid (hV.later B0)
  have HU := Lib.hid (hU.later B0)
  have HB := Lib.hid B0
  have HC := Lib.hid C0
  clear hV hU B0 C0
  obtain ⟨m1, hm1⟩ : ∃ m1, membB 7 V = m1 := ⟨_, rfl⟩
  obtain ⟨m2, hm2⟩ : ∃ m2, membB 3 L = m2 := ⟨_, rfl⟩
  obtain ⟨m3, hm3⟩ : ∃ m3, bothN V L = m3 := ⟨_, rfl⟩
  have HM1 := Lib.hid hm1
  have HM2 := Lib.hid hm2
  have HM3 := Lib.hid hm3
  by_cases h0 : 0 < n
  case neg =>
    have g0 : ¬ (0 : Int) < (n : Int) := by omega
    have HT := Lib.hid (show mayB V L = false by unfold mayB; rw [hn, decide_eq_false h0]; rfl)
    clear hm1 hm2 hm3
    go_enter Try.func28, Try.ntmps28
    go_wp2_with fail
    go_ret
    exact ⟨by rw [HT.out]; first | rfl | simp, HB.out⟩
  have g0 : (0 : Int) < (n : Int) := by omega
  have HT := Lib.hid (show mayB V L = (m1 && m2 && !m3) by unfold mayB; rw [hn, decide_eq_true h0, hm1, hm2, hm3]; rfl)
  have HN := Lib.hid hn
  have HN2 := Lib.hid hn2
  clear hm1 hm2 hm3 hn hn2 h0
  go_enter Try.func28, Try.ntmps28
  go_wp2_with fail
  refine (pMemb_any n c 7 a V HN.out hl _ HV.out).mono ?_
  rintro e w2 ⟨rfl, rfl⟩
  rw [HM1.out]
  cases m1
  · go_wp2_with fail
    go_ret
    exact ⟨by rw [HT.out]; first | rfl | simp, HB.out⟩
  go_wp2_with fail
  refine (pMemb_any n2 c2 3 a2 L HN2.out hl2 _ HU.out).mono ?_
  rintro e w2 ⟨rfl, rfl⟩
  rw [HM2.out]
  cases m2
  · go_wp2_with fail
    go_ret
    exact ⟨by rw [HT.out]; first | rfl | simp, HB.out⟩
  go_wp2_with fail
  refine (pContainsF_any n c w.heap.size n2 c2 a a2 V L HN.out hl HN2.out hl2 _ HV.out HU.out _ HC.out).mono ?_
  rintro e w2 ⟨rfl, rfl⟩
  rw [HM3.out]
  go_wp2_with fail
  go_ret
  exact ⟨by rw [HT.out]; first | rfl | simp, HB.out⟩
theorem pNeed_any (n c n2 c2 : Nat) (a a2 : Option Addr) (hl : n ≤ 140737488351232) (w : World) :
    Calls Try.prog 42 #[.agg #[.slice a n c, .slice a2 n2 c2]] w fun e w' => e = .returned (.int .i64 (n / 2 + 1 : Nat)) ∧ Below w.heap.size w w' := by
  have B0 : Below w.heap.size w (w.alloc (.cells #[.slice a n c, .slice a2 n2 c2] 29)) := (Below.refl _ _).alloc (Nat.le_refl _) _
  have HB := Lib.hid B0
  clear B0
  go_enter Try.func42, Try.ntmps42
  go_wp2_with fail
  go_ret
  exact ⟨by first | rfl | go_num, HB.out⟩
set_option maxHeartbeats 4000000 in
theorem rMay_any (n c n2 c2 : Nat) (a a2 : Option Addr) (V L : List Nat) (hn : V.length = n) (hl : n ≤ 140737488351232) (hn2 : L.length = n2) (hl2 : n2 ≤ 140737488351232) (w : World) (hV : Us w a V) (hU : Us w a2 L) :
    Calls Try.prog 32 #[.agg #[.slice a n c, .slice a2 n2 c2]] w fun e w' => e = .returned (.bool (mayB V L)) ∧ Below w.heap.size w w' := by
  have B0 : Below w.heap.size w (w.alloc (.cells #[.slice a n c, .slice a2 n2 c2] 29)) := (Below.refl _ _).alloc (Nat.le_refl _) _
  have C0 := Cb.new (w := w) rfl (.slice a n c) (.slice a2 n2 c2) 29
  have HV := Lib.hid (hV.later B0)
  have HU := Lib.hid (hU.later B0)
  obtain ⟨m1, hm1⟩ : ∃ m1, risesF 0 V = m1 := ⟨_, rfl⟩
  obtain ⟨m2, hm2⟩ : ∃ m2, risesF 0 L = m2 := ⟨_, rfl⟩
  have HM1 := Lib.hid hm1
  have HM2 := Lib.hid hm2
  have HT := Lib.hid (show mayB V L = (decide (0 < n) && (decide (n ≤ 7) && m1) && (decide (n2 ≤ 3) && m2) && !bothN V L) by unfold mayB membB; rw [hn, hn2, hm1, hm2])
  have HN := Lib.hid hn
  have HN2 := Lib.hid hn2
  clear hm1 hm2 hn hn2 hV hU
  go_enter Try.func32, Try.ntmps32
  go_wp2_with fail
  obtain ⟨c0, c1, fz, lt⟩ := C0
  go_wp2_with fail
  refine (rRises_any n c a V HN.out hl _ HV.out).mono ?_
  rintro e w1 ⟨rfl, hb1⟩
  rw [HM1.out]
  have B1 := B0.trans (hb1.mono B0.size)
  have C1 := (Cb.mk c0 c1 fz lt).later hb1
  have HV1 := Lib.hid (HV.out.later hb1)
  have HU1 := Lib.hid (HU.out.later hb1)
  clear c0 c1 fz lt hb1 B0 HV HU
  obtain ⟨c0, c1, fz, lt⟩ := C1
  go_wp2_with fail
  refine (rRises_any n2 c2 a2 L HN2.out hl2 _ HU1.out).mono ?_
  rintro e w2 ⟨rfl, hb2⟩
  rw [HM2.out]
  have B2 := B1.trans (hb2.mono B1.size)
  have C2 := (Cb.mk c0 c1 fz lt).later hb2
  have HV2 := Lib.hid (HV1.out.later hb2)
  have HU2 := Lib.hid (HU1.out.later hb2)
  have HB2 := Lib.hid B2
  clear c0 c1 fz lt hb2 B1 HV1 HU1 B2
  obtain ⟨c0, c1, fz, lt⟩ := C2
  generalize hW : w2 = W at *
  clear hW
  cases m1
  · go_wp2_with fail
    go_ret
    exact ⟨by rw [HT.out]; simp, HB2.out⟩
  cases m2
  · go_wp2_with fail
    go_ret
    exact ⟨by rw [HT.out]; simp, HB2.out⟩
  by_cases h0 : 0 < n
  case neg =>
    have g0 : (n : Int) < 1 := by omega
    go_wp2_with fail
    go_ret
    exact ⟨by rw [HT.out, decide_eq_false h0]; simp, HB2.out⟩
  have g0 : ¬ (n : Int) < 1 := by omega
  by_cases h1 : n ≤ 7
  case neg =>
    have g1 : (7 : Int) < (n : Int) := by omega
    go_wp2_with fail
    go_ret
    exact ⟨by rw [HT.out, decide_eq_false h1]; simp, HB2.out⟩
  have g1 : ¬ (7 : Int) < (n : Int) := by omega
  by_cases h2 : n2 ≤ 3
  case neg =>
    have g2 : (3 : Int) < (n2 : Int) := by omega
    go_wp2_with fail
    go_ret
    exact ⟨by rw [HT.out, decide_eq_false h2]; simp, HB2.out⟩
  have g2 : ¬ (3 : Int) < (n2 : Int) := by omega
  have HTT := Lib.hid (show mayB V L = !bothN V L by rw [HT.out, decide_eq_true h0, decide_eq_true h1, decide_eq_true h2]; simp)
  clear HT h0 h1 h2
  go_wp2_with fail
  go_loopw [5] (fun u wr => ∃ k : Nat, k ≤ n2 ∧ u = .int .i64 k ∧ bothN V L = bothN V (L.drop k) ∧ Below W.heap.size W wr) (fun u _ => n2 - (intOf u).toNat)
  case atStart => exact ⟨0, Nat.zero_le _, rfl, rfl, Below.refl _ _⟩
  case round =>
    obtain ⟨k, hk, rfl, hf, hB⟩ := hrel
    have HFB := Lib.hid hf
    clear hf
    have CC := (Cb.mk c0 c1 fz lt).later hB
    clear c0 c1 fz lt
    obtain ⟨c0, c1, fz, lt⟩ := CC
    have HBB := Lib.hid (HB2.out.trans (hB.mono HB2.out.size))
    by_cases hlt : k < n2
    · obtain ⟨y, hx⟩ : ∃ y, L[k]? = some y := ⟨_, List.getElem?_eq_getElem (by rw [HN2.out]; exact hlt)⟩
      have i0 : (0 : Int) ≤ (k : Int) := by omega
      have i1 : (k : Int) < (n2 : Int) := by omega
      obtain ⟨b, off, rfl, hb, p0⟩ := HU2.out.later hB k y hx
      have HFA := Lib.hid (HFB.out.trans (bothN_at (V := V) hx))
      have HV3 := Lib.hid (HV2.out.later hB)
      have HBW := Lib.hid hB
      clear hx hB
      obtain ⟨h, hh⟩ : ∃ h, hasN y V = h := ⟨_, rfl⟩
      have HH := Lib.hid hh
      clear hh
      cases h
      · have HTF := Lib.hid (show bothN V L = bothN V (L.drop (k + 1)) by rw [HFA.out, HH.out]; rfl)
        go_wp2_with fail
        go_quiet ((go_at_call 33; exact Calls.quiet_of_same ((rHas_any y n c a V HN.out hl _ (HV3.out.later (below_drewN (Below.refl _ _) _))).mono fun _ _ h => ⟨h.1.trans (by rw [HH.out]), h.2.symm⟩)))
        go_wp2_with fail
        go_roundw
        case rel => exact ⟨k + 1, by omega, by go_num, HTF.out, below_drewN HBW.out _⟩
        case measure => simp [intOf]; omega
      · have HTF := Lib.hid (show mayB V L = false by rw [HTT.out, HFA.out, HH.out]; rfl)
        go_wp2_with fail
        go_quiet ((go_at_call 33; exact Calls.quiet_of_same ((rHas_any y n c a V HN.out hl _ (HV3.out.later (below_drewN (Below.refl _ _) _))).mono fun _ _ h => ⟨h.1.trans (by rw [HH.out]), h.2.symm⟩)))
        go_wp2_with fail
        go_ret
        exact ⟨by rw [HTF.out]; first | rfl | simp, below_drewN HBB.out _⟩
    · have HTF := Lib.hid (show mayB V L = true by rw [HTT.out, HFB.out, List.drop_eq_nil_of_le (by rw [HN2.out]; omega)]; rfl)
      go_wp2_with fail
      go_ret
      exact ⟨by rw [HTF.out]; first | rfl | simp, HBB.out⟩
end Go.Proofs.Ytoabpakichjieaa
