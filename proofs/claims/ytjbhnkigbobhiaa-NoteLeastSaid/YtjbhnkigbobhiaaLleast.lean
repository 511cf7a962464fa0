/- NoteLeast: which states may be, and the notes that come to them, are as the document says. -/
import Derived.Test.YtjbhnkigbobhiaaKs
import Derived.Test.YtjbhnkigbobhiaaMl
import Derived.Deep.RegionHeld3
namespace Go.Proofs.Ytjbhnkigbobhiaa
open Go.RowKit

theorem mayP_T {P : Prop} {w w' : World} {e : Ending} (h : MayP P w e w') (hp : P) : e = .returned (.bool true) ∧ Below w.heap.size w w' := by
  obtain ⟨⟨b, rfl, hb⟩, hB⟩ := h
  exact ⟨by rw [hb.2 hp], hB⟩
theorem mayP_F {P : Prop} {w w' : World} {e : Ending} (h : MayP P w e w') (hp : ¬ P) : e = .returned (.bool false) ∧ Below w.heap.size w w' := by
  obtain ⟨⟨b, rfl, hb⟩, hB⟩ := h
  cases b with
  | false => exact ⟨rfl, hB⟩
  | true => exact absurd (hb.1 rfl) hp
theorem keepU {W wp w2 : World} {x : Nat} {v0 v1 v2 v3 v4 v5 : Value} (K : wp.cell? ⟨x, 0, none⟩ = some v0 ∧ wp.cell? ⟨x, 1, none⟩ = some v1 ∧ wp.cell? ⟨x, 2, none⟩ = some v2 ∧ wp.cell? ⟨x, 3, none⟩ = some v3 ∧ wp.cell? ⟨x, 4, none⟩ = some v4 ∧ wp.cell? ⟨x, 5, none⟩ = some v5 ∧ Below W.heap.size W wp) (hb : Below wp.heap.size wp w2) (hx : x < W.heap.size) :
    w2.cell? ⟨x, 0, none⟩ = some v0 ∧ w2.cell? ⟨x, 1, none⟩ = some v1 ∧ w2.cell? ⟨x, 2, none⟩ = some v2 ∧ w2.cell? ⟨x, 3, none⟩ = some v3 ∧ w2.cell? ⟨x, 4, none⟩ = some v4 ∧ w2.cell? ⟨x, 5, none⟩ = some v5 ∧ Below W.heap.size W w2 := by
  obtain ⟨k0, k1, k2, k3, k4, k5, hB⟩ := K
  have hs : x < wp.heap.size := Nat.lt_of_lt_of_le hx hB.size
  exact ⟨(hb.cell (p := ⟨x, 0, none⟩) hs).trans k0, (hb.cell (p := ⟨x, 1, none⟩) hs).trans k1, (hb.cell (p := ⟨x, 2, none⟩) hs).trans k2, (hb.cell (p := ⟨x, 3, none⟩) hs).trans k3, (hb.cell (p := ⟨x, 4, none⟩) hs).trans k4, (hb.cell (p := ⟨x, 5, none⟩) hs).trans k5, hB.trans (hb.mono hB.size)⟩
theorem belowM {W wp : World} {x : Nat} {v0 v1 v2 v3 v4 v5 : Value} (K : wp.cell? ⟨x, 0, none⟩ = some v0 ∧ wp.cell? ⟨x, 1, none⟩ = some v1 ∧ wp.cell? ⟨x, 2, none⟩ = some v2 ∧ wp.cell? ⟨x, 3, none⟩ = some v3 ∧ wp.cell? ⟨x, 4, none⟩ = some v4 ∧ wp.cell? ⟨x, 5, none⟩ = some v5 ∧ Below W.heap.size W wp) : Below W.heap.size W wp := K.2.2.2.2.2.2
set_option maxRecDepth 100000 in
set_option maxHeartbeats 4000000 in
theorem least_yes (term vote base bt n c : Nat) (snap : ByteArray) (a : Option Addr) (L : List En) (hn : L.length = n) (hl : n ≤ 140737488351232) (hs : snap.size ≤ 140737488351232) (hD : ∀ x ∈ L, x.d.size ≤ 140737488351232) (w : World) (hE : Ents w a L) (hst : stOk term vote base bt snap L) :
    Calls Try.prog 5 #[.agg #[.int .u64 term, .int .u64 vote, .int .u64 base, .int .u64 bt, .string snap, .slice a n c]] w fun e w' => e = .returned (.bool true) ∧ Below w.heap.size w w' := by
  have HN := Lib.hid hn
  have HD := Lib.hid hD
  have HST := Lib.hid hst
  clear hn hD hst
  have B0 : Below w.heap.size w (w.alloc (.cells #[.int .u64 term, .int .u64 vote, .int .u64 base, .int .u64 bt, .string snap, .slice a n c] 34)) := (Below.refl _ _).alloc (Nat.le_refl _) _
  have hS := Sc.new w term vote base bt snap a n c
  have hE0 := hE.later B0
  have HS := Lib.hid hS
  have HB := Lib.hid B0
  clear hE hS B0
  go_enter Try.func5, Try.ntmps5
  go_wp2_with fail
  refine (shown_any _).mono ?_
  rintro e w1 ⟨rfl, hb1⟩
  have hE1 := hE0.later hb1
  have B1 := HB.out.trans (hb1.mono HB.out.size)
  obtain ⟨x0, x1, x2, x3, x4, x5, xl⟩ := HS.out.later hb1
  clear hb1 hE0
  go_wp2_with fail
  refine (pLeast_yes term vote base bt n c snap a L HN.out hl hs HD.out _ hE1 HST.out).mono ?_
  rintro e w2 ⟨v2, rfl, hown2, hb2⟩
  obtain ⟨a2, c2, rfl, hN2⟩ := nts_of_owns hown2
  clear hown2
  have hE2 := hE1.later hb2
  have B2 := B1.trans (hb2.mono B1.size)
  obtain ⟨y0, y1, y2, y3, y4, y5, yl⟩ := (Sc.mk x0 x1 x2 x3 x4 x5 xl).later hb2
  clear hE1 B1 x0 x1 x2 x3 x4 x5 xl
  go_wp2_with fail
  refine (refLeast_yes term vote base bt n c snap a L HN.out hl hs HD.out _ hE2 HST.out).mono ?_
  rintro e w3 ⟨v3, rfl, hown3, hb3⟩
  obtain ⟨a3, c3, rfl, hN3⟩ := nts_of_owns hown3
  have hN2' := hN2.later hb3
  clear hown3 hN2
  have hE3 := hE2.later hb3
  have B3 := B2.trans (hb3.mono B2.size)
  obtain ⟨x0, x1, x2, x3, x4, x5, xl⟩ := (Sc.mk y0 y1 y2 y3 y4 y5 yl).later hb3
  clear hE2 B2 y0 y1 y2 y3 y4 y5 yl hb2
  obtain ⟨N, hNN⟩ : ∃ N, leastL term vote base bt snap L = N := ⟨_, rfl⟩
  have hNl : N.length ≤ 140737488351232 := by
    rw [← hNN]; unfold leastL; rw [List.length_append, entL_len _ _ _ (Nat.le_refl _)]
    have := headL_len term vote base bt snap; have := HST.out.2.2.2.1; omega
  rw [hNN] at hN2' hN3 ⊢
  clear hNN
  go_wp2_with fail
  refine (refNotes_eq a2 a3 _ c2 c3 N rfl hNl _ hN2' hN3).mono ?_
  clear hN2' hN3
  rintro e W ⟨rfl, hb4⟩
  have hE4 := hE3.later hb4
  have B4 := B3.trans (hb4.mono B3.size)
  obtain ⟨y0, y1, y2, y3, y4, y5, yl⟩ := (Sc.mk x0 x1 x2 x3 x4 x5 xl).later hb4
  clear hE3 B3 x0 x1 x2 x3 x4 x5 xl hb4 hb3
  have HE4 := Lib.hid hE4
  clear hE4
  go_wp2_with fail
  have K1 : W.drew.cell? ⟨w.heap.size, 0, none⟩ = some (.int .u64 term) ∧ W.drew.cell? ⟨w.heap.size, 1, none⟩ = some (.int .u64 vote) ∧ W.drew.cell? ⟨w.heap.size, 2, none⟩ = some (.int .u64 base) ∧ W.drew.cell? ⟨w.heap.size, 3, none⟩ = some (.int .u64 bt) ∧ W.drew.cell? ⟨w.heap.size, 4, none⟩ = some (.string snap) ∧ W.drew.cell? ⟨w.heap.size, 5, none⟩ = some (.slice a n c) ∧ Below W.heap.size W W.drew := ⟨y0, y1, y2, y3, y4, y5, (Below.refl _ _).drew⟩
  go_region_held3 (fun w' => w'.cell? ⟨w.heap.size, 0, none⟩ = some (.int .u64 term) ∧ w'.cell? ⟨w.heap.size, 1, none⟩ = some (.int .u64 vote) ∧ w'.cell? ⟨w.heap.size, 2, none⟩ = some (.int .u64 base) ∧ w'.cell? ⟨w.heap.size, 3, none⟩ = some (.int .u64 bt) ∧ w'.cell? ⟨w.heap.size, 4, none⟩ = some (.string snap) ∧ w'.cell? ⟨w.heap.size, 5, none⟩ = some (.slice a n c) ∧ Below W.heap.size W w')
    (first | (with_reducible assumption) | go_keep)
    (first
      | (go_at_call 15; (with_reducible refine (pMay_any term vote base bt n c snap a L HN.out hl hs HD.out _ (HE4.out.later (belowM (by assumption)))).mono ?_); rintro e w5 hm5; obtain ⟨rfl, hb5⟩ := mayP_T hm5 HST.out; have K2 := keepU ‹_ ∧ _› hb5 yl)
      | (go_at_call 16; (with_reducible refine (refMay_st term vote base bt n c snap a L HN.out hl hs HD.out _ (HE4.out.later (belowM (by assumption)))).mono ?_); rintro e w5 hm5; obtain ⟨rfl, hb5⟩ := mayP_T hm5 HST.out; have K2 := keepU ‹_ ∧ _› hb5 yl))
  all_goals
    have hfin := B4.trans ((belowM K2).mono B4.size)
    have HF := Lib.hid hfin
    clear hfin K2 K1
    go_wp2_with fail
    go_ret
    exact ⟨by simp, HF.out⟩
set_option maxRecDepth 100000 in
set_option maxHeartbeats 4000000 in
theorem least_no (term vote base bt n c : Nat) (snap : ByteArray) (a : Option Addr) (L : List En) (hn : L.length = n) (hl : n ≤ 140737488351232) (hs : snap.size ≤ 140737488351232) (hD : ∀ x ∈ L, x.d.size ≤ 140737488351232) (w : World) (hE : Ents w a L) (hst : ¬ stOk term vote base bt snap L) :
    Calls Try.prog 5 #[.agg #[.int .u64 term, .int .u64 vote, .int .u64 base, .int .u64 bt, .string snap, .slice a n c]] w fun e w' => e = .returned (.bool true) ∧ Below w.heap.size w w' := by
  have HN := Lib.hid hn
  have HD := Lib.hid hD
  have HST := Lib.hid hst
  clear hn hD hst
  have B0 : Below w.heap.size w (w.alloc (.cells #[.int .u64 term, .int .u64 vote, .int .u64 base, .int .u64 bt, .string snap, .slice a n c] 34)) := (Below.refl _ _).alloc (Nat.le_refl _) _
  have hS := Sc.new w term vote base bt snap a n c
  have hE0 := hE.later B0
  have HS := Lib.hid hS
  have HB := Lib.hid B0
  clear hE hS B0
  go_enter Try.func5, Try.ntmps5
  go_wp2_with fail
  refine (shown_any _).mono ?_
  rintro e w1 ⟨rfl, hb1⟩
  have hE1 := hE0.later hb1
  have B1 := HB.out.trans (hb1.mono HB.out.size)
  obtain ⟨x0, x1, x2, x3, x4, x5, xl⟩ := HS.out.later hb1
  clear hb1 hE0
  go_wp2_with fail
  refine (pLeast_no term vote base bt n c snap a L HN.out hl hs HD.out _ hE1 HST.out).mono ?_
  rintro e w2 ⟨rfl, hb2⟩
  have hE2 := hE1.later hb2
  have B2 := B1.trans (hb2.mono B1.size)
  obtain ⟨y0, y1, y2, y3, y4, y5, yl⟩ := (Sc.mk x0 x1 x2 x3 x4 x5 xl).later hb2
  clear hE1 B1 x0 x1 x2 x3 x4 x5 xl
  go_wp2_with fail
  refine (refLeast_no term vote base bt n c snap a L HN.out hl hs HD.out _ hE2 HST.out).mono ?_
  rintro e w3 ⟨rfl, hb3⟩
  have hE3 := hE2.later hb3
  have B3 := B2.trans (hb3.mono B2.size)
  obtain ⟨x0, x1, x2, x3, x4, x5, xl⟩ := (Sc.mk y0 y1 y2 y3 y4 y5 yl).later hb3
  clear hE2 B2 y0 y1 y2 y3 y4 y5 yl hb2
  go_wp2_with fail
  refine (refNotes_eq none none 0 0 0 [] rfl (by omega) _ (fun j x h => by simp at h) (fun j x h => by simp at h)).mono ?_
  rintro e W ⟨rfl, hb4⟩
  have hE4 := hE3.later hb4
  have B4 := B3.trans (hb4.mono B3.size)
  obtain ⟨y0, y1, y2, y3, y4, y5, yl⟩ := (Sc.mk x0 x1 x2 x3 x4 x5 xl).later hb4
  clear hE3 B3 x0 x1 x2 x3 x4 x5 xl hb4 hb3
  have HE4 := Lib.hid hE4
  clear hE4
  go_wp2_with fail
  have K1 : W.drew.cell? ⟨w.heap.size, 0, none⟩ = some (.int .u64 term) ∧ W.drew.cell? ⟨w.heap.size, 1, none⟩ = some (.int .u64 vote) ∧ W.drew.cell? ⟨w.heap.size, 2, none⟩ = some (.int .u64 base) ∧ W.drew.cell? ⟨w.heap.size, 3, none⟩ = some (.int .u64 bt) ∧ W.drew.cell? ⟨w.heap.size, 4, none⟩ = some (.string snap) ∧ W.drew.cell? ⟨w.heap.size, 5, none⟩ = some (.slice a n c) ∧ Below W.heap.size W W.drew := ⟨y0, y1, y2, y3, y4, y5, (Below.refl _ _).drew⟩
  go_region_held3 (fun w' => w'.cell? ⟨w.heap.size, 0, none⟩ = some (.int .u64 term) ∧ w'.cell? ⟨w.heap.size, 1, none⟩ = some (.int .u64 vote) ∧ w'.cell? ⟨w.heap.size, 2, none⟩ = some (.int .u64 base) ∧ w'.cell? ⟨w.heap.size, 3, none⟩ = some (.int .u64 bt) ∧ w'.cell? ⟨w.heap.size, 4, none⟩ = some (.string snap) ∧ w'.cell? ⟨w.heap.size, 5, none⟩ = some (.slice a n c) ∧ Below W.heap.size W w')
    (first | (with_reducible assumption) | go_keep)
    (first
      | (go_at_call 15; (with_reducible refine (pMay_any term vote base bt n c snap a L HN.out hl hs HD.out _ (HE4.out.later (belowM (by assumption)))).mono ?_); rintro e w5 hm5; obtain ⟨rfl, hb5⟩ := mayP_F hm5 HST.out; have K2 := keepU ‹_ ∧ _› hb5 yl)
      | (go_at_call 16; (with_reducible refine (refMay_st term vote base bt n c snap a L HN.out hl hs HD.out _ (HE4.out.later (belowM (by assumption)))).mono ?_); rintro e w5 hm5; obtain ⟨rfl, hb5⟩ := mayP_F hm5 HST.out; have K2 := keepU ‹_ ∧ _› hb5 yl))
  all_goals
    have hfin := B4.trans ((belowM K2).mono B4.size)
    have HF := Lib.hid hfin
    clear hfin K2 K1
    go_wp2_with fail
    go_ret
    exact ⟨by simp, HF.out⟩
theorem law_NoteLeast (term vote base bt n c : Nat) (snap : ByteArray) (a : Option Addr) (L : List En) (hn : L.length = n) (hl : n ≤ 140737488351232) (hs : snap.size ≤ 140737488351232) (hD : ∀ x ∈ L, x.d.size ≤ 140737488351232) (w : World) (hE : Ents w a L) :
    Calls Try.prog 5 #[.agg #[.int .u64 term, .int .u64 vote, .int .u64 base, .int .u64 bt, .string snap, .slice a n c]] w fun e w' => e = .returned (.bool true) ∧ Below w.heap.size w w' := by
  by_cases h : stOk term vote base bt snap L
  · exact least_yes term vote base bt n c snap a L hn hl hs hD w hE h
  · exact least_no term vote base bt n c snap a L hn hl hs hD w hE h
end Go.Proofs.Ytjbhnkigbobhiaa
