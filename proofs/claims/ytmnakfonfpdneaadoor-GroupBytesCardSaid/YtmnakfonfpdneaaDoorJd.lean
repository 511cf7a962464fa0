/- Configurations' bytes: what they are. -/
import Derived.Test.YtmnakfonfpdneaaDoorHp
import Derived.Test.YtmnakfonfpdneaaDoorJc
namespace Go.Proofs.YtmnakfonfpdneaaDoor
open Go.RowKit

/-- A configuration's bytes, and what stands for a fault. -/
def byG (V L : List Nat) : List UInt8 := if mayB V L then numsB V ++ numsB L else []
def erG (V L : List Nat) : Nat := if mayB V L then 0 else 1
theorem mk_app (A B : List UInt8) : (⟨A.toArray⟩ : ByteArray) ++ ⟨B.toArray⟩ = ⟨(A ++ B).toArray⟩ := by
  apply ByteArray.ext; simp [ByteArray.data_append]
theorem nums_room {V L : List Nat} (h : (V.length ≤ 7 ∧ L.length ≤ 3) ∧ (∀ x ∈ V, x < 4611686018427387904) ∧ ∀ x ∈ L, x < 4611686018427387904) : (numsB V).length + (numsB L).length ≤ 96 := by
  have h1 := preB_le V h.2.1 (by have := h.1.1; omega) V.length (Nat.le_refl _)
  have h2 := preB_le L h.2.2 (by have := h.1.2; omega) L.length (Nat.le_refl _)
  rw [preB_all] at h1 h2
  have := h.1
  omega
theorem may_small {V L : List Nat} (h : mayB V L = true) : (V.length ≤ 7 ∧ L.length ≤ 3) ∧ (∀ x ∈ V, x < 4611686018427387904) ∧ ∀ x ∈ L, x < 4611686018427387904 := by
  obtain ⟨⟨_, h1, h2⟩, h3, _, h4, _⟩ := mayB_iff.1 h
  exact ⟨⟨h1, h2⟩, fun x hx => by have := (h3 x hx).2; omega, fun x hx => by have := (h4 x hx).2; omega⟩
set_option maxRecDepth 100000 in
set_option maxHeartbeats 4000000 in
theorem pBytes_any (n c n2 c2 : Nat) (a a2 : Option Addr) (V L : List Nat) (hn : V.length = n) (hl : n ≤ 140737488351232) (hn2 : L.length = n2) (hl2 : n2 ≤ 140737488351232) (w : World) (hV : Us w a V) (hU : Us w a2 L) (hT : Tz w) :
    Calls Tryd.prog 6 #[.agg #[.slice a n c, .slice a2 n2 c2]] w fun e w' => e = .returned (.tuple #[.string ⟨(byG V L).toArray⟩, .int .i64 (erG V L : Nat)]) ∧ Below w.heap.size w w' := by
  have B0 : Below w.heap.size w (w.alloc (.cells #[.slice a n c, .slice a2 n2 c2] 24)) := (Below.refl _ _).alloc (Nat.le_refl _) _
  have C0 := Cb.new (w := w) rfl (.slice a n c) (.slice a2 n2 c2) 24
  have HTN := Lib.hid hT.n
  have HV := Lib.hid (hV.later B0)
  have HU := Lib.hid (hU.later B0)
  have HT := Lib.hid (hT.below (B0.mono hT.n))
  have HB := Lib.hid B0
  have HC := Lib.hid C0
  have HN := Lib.hid hn
  have HN2 := Lib.hid hn2
  obtain ⟨mb, hmb⟩ : ∃ mb, mayB V L = mb := ⟨_, rfl⟩
  have HMB := Lib.hid hmb
  clear hn hn2 hV hU hT B0 C0 hmb
  go_enter Tryd.func6, Tryd.ntmps6
  go_wp2_with fail
  refine (pMay_any n c n2 c2 a a2 V L HN.out hl HN2.out hl2 _ HV.out HU.out).mono ?_
  rintro e w2 ⟨rfl, hb2⟩
  rw [HMB.out]
  have HV2 := Lib.hid (HV.out.later hb2)
  have HU2 := Lib.hid (HU.out.later hb2)
  have HC2 := Lib.hid (HC.out.later hb2)
  have HB2 := Lib.hid (HB.out.trans (hb2.mono HB.out.size))
  have HT2 := Lib.hid (HT.out.below (hb2.mono HT.out.n))
  clear hb2 HV HU HC HB HT
  obtain ⟨c0, c1, _, _⟩ := HC2.out
  cases mb
  · go_wp2_with fail
    go_ret2
    exact ⟨by unfold byG erG; rw [HMB.out]; first | rfl | simp, HB2.out⟩
  · have HS := Lib.hid (may_small HMB.out)
    go_wp2_with fail
    refine (nums_any n c a V HN.out (by have := HS.out.1.1; have := HN.out; omega) HS.out.2.1 _ HV2.out HT2.out).mono ?_
    rintro e w3 ⟨rfl, hb3⟩
    have HU3 := Lib.hid (HU2.out.later hb3)
    have HC3 := Lib.hid (HC2.out.later hb3)
    have HB3 := Lib.hid (HB2.out.trans (hb3.mono HB2.out.size))
    have HT3 := Lib.hid (HT2.out.below (hb3.mono HT2.out.n))
    clear hb3 c0 c1
    obtain ⟨c0, c1, _, _⟩ := HC3.out
    go_wp2_with fail
    refine (nums_any n2 c2 a2 L HN2.out (by have := HS.out.1.2; have := HN2.out; omega) HS.out.2.2 _ HU3.out HT3.out).mono ?_
    rintro e w4 ⟨rfl, hb4⟩
    have HB4 := Lib.hid (HB3.out.trans (hb4.mono HB3.out.size))
    clear hb4
    have hroom : ¬ 9223372036854775807 < (numsB V).length + (numsB L).length := by have := nums_room HS.out; omega
    go_wp2_with fail
    go_ret2
    exact ⟨by rw [show byG V L = numsB V ++ numsB L by unfold byG; rw [HMB.out]; rfl, show erG V L = 0 by unfold erG; rw [HMB.out]; rfl, ← mk_app]; rfl, HB4.out⟩
set_option maxRecDepth 100000 in
set_option maxHeartbeats 4000000 in
theorem rBytes_any (n c n2 c2 : Nat) (a a2 : Option Addr) (V L : List Nat) (hn : V.length = n) (hl : n ≤ 140737488351232) (hn2 : L.length = n2) (hl2 : n2 ≤ 140737488351232) (w : World) (hV : Us w a V) (hU : Us w a2 L) :
    Calls Tryd.prog 7 #[.agg #[.slice a n c, .slice a2 n2 c2]] w fun e w' => e = .returned (.tuple #[.string ⟨(byG V L).toArray⟩, .int .i64 (erG V L : Nat)]) ∧ Below w.heap.size w w' := by
  have B0 : Below w.heap.size w (w.alloc (.cells #[.slice a n c, .slice a2 n2 c2] 24)) := (Below.refl _ _).alloc (Nat.le_refl _) _
  have C0 := Cb.new (w := w) rfl (.slice a n c) (.slice a2 n2 c2) 24
  have HV := Lib.hid (hV.later B0)
  have HU := Lib.hid (hU.later B0)
  have HB := Lib.hid B0
  have HC := Lib.hid C0
  have HN := Lib.hid hn
  have HN2 := Lib.hid hn2
  obtain ⟨mb, hmb⟩ : ∃ mb, mayB V L = mb := ⟨_, rfl⟩
  have HMB := Lib.hid hmb
  clear hn hn2 hV hU B0 C0 hmb
  go_enter Tryd.func7, Tryd.ntmps7
  go_wp2_with fail
  refine (rMay_any n c n2 c2 a a2 V L HN.out hl HN2.out hl2 _ HV.out HU.out).mono ?_
  rintro e w2 ⟨rfl, hb2⟩
  rw [HMB.out]
  have HV2 := Lib.hid (HV.out.later hb2)
  have HU2 := Lib.hid (HU.out.later hb2)
  have HC2 := Lib.hid (HC.out.later hb2)
  have HB2 := Lib.hid (HB.out.trans (hb2.mono HB.out.size))
  clear hb2 HV HU HC HB
  obtain ⟨c0, c1, _, _⟩ := HC2.out
  cases mb
  · go_wp2_with fail
    go_ret2
    exact ⟨by unfold byG erG; rw [HMB.out]; first | rfl | simp, HB2.out⟩
  · have HS := Lib.hid (may_small HMB.out)
    go_wp2_with fail
    refine (refNums_any n c a V HN.out (by have := HS.out.1.1; have := HN.out; omega) HS.out.2.1 _ HV2.out).mono ?_
    rintro e w3 ⟨rfl, hb3⟩
    have HU3 := Lib.hid (HU2.out.later hb3)
    have HC3 := Lib.hid (HC2.out.later hb3)
    have HB3 := Lib.hid (HB2.out.trans (hb3.mono HB2.out.size))
    clear hb3 c0 c1
    obtain ⟨c0, c1, _, _⟩ := HC3.out
    go_wp2_with fail
    refine (refNums_any n2 c2 a2 L HN2.out (by have := HS.out.1.2; have := HN2.out; omega) HS.out.2.2 _ HU3.out).mono ?_
    rintro e w4 ⟨rfl, hb4⟩
    have HB4 := Lib.hid (HB3.out.trans (hb4.mono HB3.out.size))
    clear hb4
    have hroom : ¬ 9223372036854775807 < (numsB V).length + (numsB L).length := by have := nums_room HS.out; omega
    go_wp2_with fail
    go_ret2
    exact ⟨by rw [show byG V L = numsB V ++ numsB L by unfold byG; rw [HMB.out]; rfl, show erG V L = 0 by unfold erG; rw [HMB.out]; rfl, ← mk_app]; rfl, HB4.out⟩
end Go.Proofs.YtmnakfonfpdneaaDoor
