/- GroupBack: a configuration's bytes are taken as the configuration, and with a byte more as nothing. -/
import Derived.Test.YtmnakfonfpdneaaDoorJg
namespace Go.Proofs.YtmnakfonfpdneaaDoor
open Go.RowKit

set_option maxRecDepth 100000 in
set_option maxHeartbeats 4000000 in
theorem law_GroupBack (n c n2 c2 : Nat) (a a2 : Option Addr) (V L : List Nat) (hn : V.length = n) (hl : n ≤ 140737488351232) (hn2 : L.length = n2) (hl2 : n2 ≤ 140737488351232) (w : World) (hV : Us w a V) (hU : Us w a2 L) (hT : Tz w) :
    Calls Tryd.prog 4 #[.agg #[.slice a n c, .slice a2 n2 c2]] w fun e w' => e = .returned (.bool true) ∧ Below w.heap.size w w' := by
  have B0 : Below w.heap.size w (w.alloc (.cells #[.slice a n c, .slice a2 n2 c2] 24)) := (Below.refl _ _).alloc (Nat.le_refl _) _
  have HC := Lib.hid (Cb.new (w := w) rfl (.slice a n c) (.slice a2 n2 c2) 24)
  have HV := Lib.hid (hV.later B0)
  have HU := Lib.hid (hU.later B0)
  have HT := Lib.hid (hT.below (B0.mono hT.n))
  have HTN := Lib.hid hT.n
  have HB := Lib.hid B0
  have HN := Lib.hid hn
  have HN2 := Lib.hid hn2
  obtain ⟨mb, hmb⟩ : ∃ mb, mayB V L = mb := ⟨_, rfl⟩
  have HMB := Lib.hid hmb
  clear hn hn2 hV hU hT B0 hmb
  go_enter Tryd.func4, Tryd.ntmps4
  go_wp2_with fail
  refine (shown_any _).mono ?_
  rintro e w1 ⟨rfl, hb1⟩
  have HC1 := Lib.hid (HC.out.later hb1)
  have HV1 := Lib.hid (HV.out.later hb1)
  have HU1 := Lib.hid (HU.out.later hb1)
  have HT1 := Lib.hid (HT.out.below (hb1.mono HT.out.n))
  have HB1 := Lib.hid (HB.out.trans (hb1.mono HB.out.size))
  clear hb1 HC HV HU HT HB
  obtain ⟨c0, c1, _, _⟩ := HC1.out
  go_wp2_with fail
  refine (pBytes_any n c n2 c2 a a2 V L HN.out hl HN2.out hl2 _ HV1.out HU1.out HT1.out).mono ?_
  rintro e w2 ⟨rfl, hb2⟩
  have HC2 := Lib.hid (HC1.out.later hb2)
  have HV2 := Lib.hid (HV1.out.later hb2)
  have HU2 := Lib.hid (HU1.out.later hb2)
  have HB2 := Lib.hid (HB1.out.trans (hb2.mono HB1.out.size))
  clear hb2 HC1 HV1 HU1 HT1 HB1 c0 c1
  obtain ⟨c0, c1, _, _⟩ := HC2.out
  cases mb
  · rw [show byG V L = [] by unfold byG; rw [HMB.out]; rfl, show erG V L = 1 by unfold erG; rw [HMB.out]; rfl]
    go_wp2_with fail
    refine (pMay_any n c n2 c2 a a2 V L HN.out hl HN2.out hl2 _ HV2.out HU2.out).mono ?_
    rintro e w3 ⟨rfl, hb3⟩
    rw [HMB.out]
    have HB3 := Lib.hid (HB2.out.trans (hb3.mono HB2.out.size))
    clear hb3 c0 c1
    go_wp2_with fail
    go_ret
    exact ⟨by first | rfl | simp, HB3.out⟩
  · obtain ⟨l, hlb⟩ : ∃ l, byG V L = l := ⟨_, rfl⟩
    have HR := Lib.hid (show tkG l = ((V, L), 0) by rw [← hlb]; exact tkG_back HMB.out)
    have HR2 := Lib.hid (show tkG (l ++ [0]) = (([], []), 3) by rw [← hlb]; exact tkG_more HMB.out)
    have HLL := Lib.hid (show l.length ≤ 96 by rw [← hlb]; have := nums_room (may_small HMB.out); unfold byG; rw [HMB.out, if_pos rfl, List.length_append]; exact this)
    rw [hlb, show erG V L = 0 by unfold erG; rw [HMB.out]; rfl]
    clear hlb
    go_wp2_with fail
    refine (pTake_any l (by have := HLL.out; omega) _).mono ?_
    intro e w4 h4
    rw [HR.out] at h4
    obtain ⟨a3, c3, a4, c4, rfl, hX, hY, _, _, hb4⟩ := h4
    simp only at hX hY ⊢
    rw [HN.out, HN2.out]
    have HC4 := Lib.hid (HC2.out.later hb4)
    have HV4 := Lib.hid (HV2.out.later hb4)
    have HU4 := Lib.hid (HU2.out.later hb4)
    have HB4 := Lib.hid (HB2.out.trans (hb4.mono HB2.out.size))
    have HX4 := Lib.hid hX
    have HY4 := Lib.hid hY
    clear hb4 hX hY HB2 HC2 HV2 HU2 c0 c1
    have HG := Lib.hid ((Below.refl w4.heap.size w4).alloc (Nat.le_refl _) (.cells #[.slice a3 n c3, .slice a4 n2 c4] 24))
    have HD4 := Lib.hid (Cb.new (w := w4) rfl (.slice a3 n c3) (.slice a4 n2 c4) 24)
    have HC5 := Lib.hid (HC4.out.past (.cells #[.slice a3 n c3, .slice a4 n2 c4] 24))
    obtain ⟨c0, c1, _, _⟩ := HC5.out
    obtain ⟨d0, d1, _, _⟩ := HD4.out
    go_wp2_with fail
    refine (rSame_any n c n2 c2 c3 c4 a a3 a2 a4 V L HN.out hl HN2.out hl2 _ (HV4.out.later HG.out) (HU4.out.later HG.out) (HX4.out.later HG.out) (HY4.out.later HG.out)).mono ?_
    rintro e w6 ⟨rfl, hb6⟩
    have HB6 := Lib.hid (HB4.out.trans ((HG.out.trans (hb6.mono HG.out.size)).mono HB4.out.size))
    clear hb6 d0 d1 c0 c1 HC5 HD4 HG HC4 HV4 HU4 HX4 HY4 HB4
    have hroom : ¬ 9223372036854775807 < l.length + 1 := by have := HLL.out; omega
    have happ : (⟨l.toArray⟩ : ByteArray) ++ ⟨#[0]⟩ = ⟨(l ++ [0]).toArray⟩ := mk_app l [0]
    go_wp2_with fail
    refine (pTake_any (l ++ [0]) (by have := HLL.out; simp; omega) _).mono ?_
    intro e w7 h7
    rw [HR2.out] at h7
    obtain ⟨a5, c5, a6, c6, rfl, _, _, _, _, hb7⟩ := h7
    simp only
    have HB7 := Lib.hid (HB6.out.trans (hb7.mono HB6.out.size))
    clear hb7
    go_wp2_with fail
    go_ret
    exact ⟨by first | rfl | simp, by first | exact HB7.out | exact HB7.out.alloc (by simpa using HB7.out.size) _⟩
end Go.Proofs.YtmnakfonfpdneaaDoor
