/- GroupMarks, GroupAgrees. -/
import Derived.Test.YtmnakfonfpdneaaIa
import Derived.Test.YtmnakfonfpdneaaGn
import Derived.Test.YtmnakfonfpdneaaGs
namespace Go.Proofs.Ytmnakfonfpdneaa
open Go.RowKit

set_option maxRecDepth 100000 in
set_option maxHeartbeats 4000000 in
theorem law_GroupMarks (id u n c : Nat) (a : Option Addr) (L : List Mk) (hn : L.length = n) (hl : n * 16 ≤ 140737488351232) (w : World) (hM : Ms w a L) :
    Calls Try.prog 6 #[.slice a n c, .int .u64 id, .int .u64 u] w fun e w' => e = .returned (.bool true) ∧ Below w.heap.size w w' := by
  have HN := Lib.hid hn
  have HM := Lib.hid hM
  have HL := Lib.hid hl
  obtain ⟨p, hp⟩ : ∃ p, markN id L = p := ⟨_, rfl⟩
  have HP := Lib.hid hp
  obtain ⟨Z, hZ⟩ : ∃ Z, setN id u L = Z := ⟨_, rfl⟩
  have HZ := Lib.hid hZ
  have HZL := Lib.hid (show Z.length ≤ 140737488351232 by
    rw [← hZ]
    have : ∀ L : List Mk, (setN id u L).length ≤ L.length + 1 := by
      intro L
      induction L with
      | nil => simp [setN]
      | cons x r ih => simp only [setN]; split <;> simp <;> omega
    have := this L; omega)
  clear hn hM hl hp hZ
  obtain ⟨pn, pb⟩ := p
  go_enter Try.func6, Try.ntmps6
  go_wp2_with fail
  refine (shown_any _).mono ?_
  rintro e w1 ⟨rfl, hb1⟩
  have HB1 := Lib.hid hb1
  clear hb1
  go_wp2_with fail
  refine (pMark_any id n c a L HN.out (by have := HL.out; omega) _ (HM.out.later HB1.out)).mono ?_
  rintro e w2 ⟨rfl, hb2⟩
  rw [HP.out]
  have HB2 := Lib.hid (HB1.out.trans (hb2.mono HB1.out.size))
  clear hb2
  go_wp2_with fail
  refine (rMark_any id n c a L HN.out (by have := HL.out; omega) _ (HM.out.later HB2.out)).mono ?_
  rintro e w3 ⟨rfl, rfl⟩
  rw [HP.out]
  go_wp2_with fail
  refine (pSet_any id u n c a L HN.out HL.out _ (HM.out.later HB2.out)).mono ?_
  rintro e w4 ⟨v4, rfl, hc4, hb4⟩
  rw [HZ.out] at hc4
  have HB4 := Lib.hid (HB2.out.trans (hb4.mono HB2.out.size))
  have HC4 := Lib.hid hc4
  clear hb4 hc4
  go_wp2_with fail
  refine (rSet_any id u n c a L HN.out HL.out _ (HM.out.later HB4.out)).mono ?_
  rintro e w5 ⟨v5, rfl, hc5, hb5⟩
  rw [HZ.out] at hc5
  obtain ⟨a4, c4, rfl, hU4, _⟩ := (HC4.out.later hb5).form
  obtain ⟨a5, c5, rfl, hU5, _⟩ := hc5.form
  have HU := Lib.hid (And.intro hU4 hU5)
  have HB5 := Lib.hid (HB4.out.trans (hb5.mono HB4.out.size))
  clear hb5 hc5 hU4 hU5
  go_wp2_with fail
  refine (rMarks_any Z.length c4 c5 a4 a5 Z rfl HZL.out _ HU.out.1 HU.out.2).mono ?_
  rintro e w6 ⟨rfl, hb6⟩
  have HB6 := Lib.hid (HB5.out.trans (hb6.mono HB5.out.size))
  clear hb6
  go_wp2_with fail
  go_ret
  exact ⟨by first | rfl | simp, HB6.out⟩
theorem keepC {w w1 w2 : World} {u v : Value} (h : w1.cell? ⟨w.heap.size, 0, none⟩ = some u ∧ w1.cell? ⟨w.heap.size, 1, none⟩ = some v ∧ w.heap.size < w1.heap.size ∧ Below w.heap.size w w1) (hb : Below w1.heap.size w1 w2) :
    w2.cell? ⟨w.heap.size, 0, none⟩ = some u ∧ w2.cell? ⟨w.heap.size, 1, none⟩ = some v ∧ w.heap.size < w2.heap.size ∧ Below w.heap.size w w2 := by
  obtain ⟨h0, h1, h2, h3⟩ := h
  exact ⟨(hb.cell (p := ⟨w.heap.size, 0, none⟩) h2).trans h0, (hb.cell (p := ⟨w.heap.size, 1, none⟩) h2).trans h1, Nat.lt_of_lt_of_le h2 hb.size, h3.trans (hb.mono h3.size)⟩
set_option maxRecDepth 100000 in
set_option maxHeartbeats 4000000 in
theorem law_GroupAgrees (n c n2 c2 m d : Nat) (a a2 a3 : Option Addr) (V : List Nat) (L : List Mk) (hn : V.length = n) (hl : n * 8 ≤ 140737488351232) (hm : L.length = m) (hl2 : m * 16 ≤ 140737488351232) (w : World) (hV : Us w a V) (hM : Ms w a3 L) :
    Calls Try.prog 4 #[.agg #[.slice a n c, .slice a2 n2 c2], .slice a3 m d] w fun e w' => e = .returned (.bool true) ∧ Below w.heap.size w w' := by
  have B0 : Below w.heap.size w (w.alloc (.cells #[.slice a n c, .slice a2 n2 c2] 24)) := (Below.refl _ _).alloc (Nat.le_refl _) _
  have C0 := Lib.hid (Cb.new (w := w) rfl (.slice a n c) (.slice a2 n2 c2) 24)
  have HB0 := Lib.hid B0
  have HN := Lib.hid hn
  have HV := Lib.hid hV
  have HM := Lib.hid hM
  have HL := Lib.hid hl
  have HL2 := Lib.hid hl2
  have HN2 := Lib.hid hm
  obtain ⟨g, hg⟩ : ∃ g, agL (mks V L) = g := ⟨_, rfl⟩
  have HG := Lib.hid hg
  clear hn hM hl hm hl2 hV hg B0
  go_enter Try.func4, Try.ntmps4
  go_wp2_with fail
  refine (shown_any _).mono ?_
  rintro e w1 ⟨rfl, hb1⟩
  obtain ⟨c0, c1, _, cl⟩ := C0.out.later hb1
  have HB1 := Lib.hid (HB0.out.trans (hb1.mono HB0.out.size))
  clear hb1
  go_wp2_with fail
  have K1 : w1.drew.cell? ⟨w.heap.size, 0, none⟩ = some (.slice a n c) ∧ w1.drew.cell? ⟨w.heap.size, 1, none⟩ = some (.slice a2 n2 c2) ∧ w.heap.size < w1.drew.heap.size ∧ Below w.heap.size w w1.drew := ⟨c0, c1, cl, HB1.out.drew⟩
  clear c0 c1 cl
  go_region_held3 (fun w' => w'.cell? ⟨w.heap.size, 0, none⟩ = some (.slice a n c) ∧ w'.cell? ⟨w.heap.size, 1, none⟩ = some (.slice a2 n2 c2) ∧ w.heap.size < w'.heap.size ∧ Below w.heap.size w w')
    (first | (with_reducible assumption) | go_keep)
    (first
      | (go_at_call 15; (with_reducible refine (pAgreed_any n c n2 c2 m d a a2 a3 V L HN.out HL.out HN2.out (by have := HL2.out; omega) _ (HV.out.later K1.2.2.2) (HM.out.later K1.2.2.2)).mono ?_); rintro e w2 ⟨rfl, hb2⟩; rw [HG.out]; have K2 := keepC K1 hb2)
      | (go_at_call 16; (with_reducible refine (rAgreed_any n c n2 c2 m d a a2 a3 V L HN.out (by have := HL.out; omega) HN2.out (by have := HL2.out; omega) _ (HV.out.later K2.2.2.2) (HM.out.later K2.2.2.2)).mono ?_); rintro e w3 ⟨rfl, hb3⟩; rw [HG.out]; have K3 := keepC K2 hb3))
  all_goals
    have B9 := K3.2.2.2
    clear K1 K2 K3
    go_wp2_with fail
    go_ret
    exact ⟨by simp, B9⟩
end Go.Proofs.Ytmnakfonfpdneaa
