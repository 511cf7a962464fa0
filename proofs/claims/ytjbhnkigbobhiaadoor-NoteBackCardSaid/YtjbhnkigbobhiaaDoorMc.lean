/- The program's May, whole. -/
import Derived.Test.YtjbhnkigbobhiaaDoorMb
namespace Go.Proofs.YtjbhnkigbobhiaaDoor
open Go.RowKit

structure Sc (w : World) (x : Nat) (term vote base bt : Nat) (snap : ByteArray) (a : Option Addr) (n c : Nat) : Prop where
  c0 : w.cell? ⟨x, 0, none⟩ = some (.int .u64 term)
  c1 : w.cell? ⟨x, 1, none⟩ = some (.int .u64 vote)
  c2 : w.cell? ⟨x, 2, none⟩ = some (.int .u64 base)
  c3 : w.cell? ⟨x, 3, none⟩ = some (.int .u64 bt)
  c4 : w.cell? ⟨x, 4, none⟩ = some (.string snap)
  c5 : w.cell? ⟨x, 5, none⟩ = some (.slice a n c)
  lt : x < w.heap.size
theorem Sc.later {w w' : World} {x term vote base bt : Nat} {snap : ByteArray} {a : Option Addr} {n c : Nat} (h : Sc w x term vote base bt snap a n c) (hb : Below w.heap.size w w') : Sc w' x term vote base bt snap a n c :=
  ⟨(hb.cell (p := ⟨x, 0, none⟩) h.lt).trans h.c0, (hb.cell (p := ⟨x, 1, none⟩) h.lt).trans h.c1, (hb.cell (p := ⟨x, 2, none⟩) h.lt).trans h.c2, (hb.cell (p := ⟨x, 3, none⟩) h.lt).trans h.c3, (hb.cell (p := ⟨x, 4, none⟩) h.lt).trans h.c4, (hb.cell (p := ⟨x, 5, none⟩) h.lt).trans h.c5, Nat.lt_of_lt_of_le h.lt hb.size⟩
theorem Sc.new (w : World) (term vote base bt : Nat) (snap : ByteArray) (a : Option Addr) (n c : Nat) : Sc (w.alloc (.cells #[.int .u64 term, .int .u64 vote, .int .u64 base, .int .u64 bt, .string snap, .slice a n c] 36)) w.heap.size term vote base bt snap a n c :=
  ⟨by simp [go_sem], by simp [go_sem], by simp [go_sem], by simp [go_sem], by simp [go_sem], by simp [go_sem], by simp⟩
set_option maxHeartbeats 4000000 in
theorem pMay_any (term vote base bt n c : Nat) (snap : ByteArray) (a : Option Addr) (L : List En) (hn : L.length = n) (hl : n ≤ 140737488351232) (hs : snap.size ≤ 140737488351232) (hD : ∀ x ∈ L, x.d.size ≤ 140737488351232) (w : World) (hE : Ents w a L) :
    Calls Tryd.prog 28 #[.agg #[.int .u64 term, .int .u64 vote, .int .u64 base, .int .u64 bt, .string snap, .slice a n c]] w (MayP (stOk term vote base bt snap L) w) := by
  have HI := Lib.hid (stOk_iff term vote base bt snap L)
  by_cases h1 : term ≤ 4611686018427387903
  case neg =>
    have g1 : ¬ (term : Int) ≤ 4611686018427387903 := by omega
    have HNO := Lib.hid (show ¬ stOk term vote base bt snap L from fun h => h1 (HI.out.1 h).1)
    clear h1 hE hD HI
    go_enter Tryd.func28, Tryd.ntmps28
    go_wp2_with fail
    go_ret
    exact mayP_no HNO.out (by go_grown)
  have g1 : (term : Int) ≤ 4611686018427387903 := by omega
  by_cases h2 : vote ≤ 4611686018427387903
  case neg =>
    have g2 : ¬ (vote : Int) ≤ 4611686018427387903 := by omega
    have HNO := Lib.hid (show ¬ stOk term vote base bt snap L from fun h => h2 (HI.out.1 h).2.1)
    clear h2 hE hD HI
    go_enter Tryd.func28, Tryd.ntmps28
    go_wp2_with fail
    go_ret
    exact mayP_no HNO.out (by go_grown)
  have g2 : (vote : Int) ≤ 4611686018427387903 := by omega
  have HD := Lib.hid hD; clear hD
  have HN := Lib.hid hn; clear hn
  have B0 : Below w.heap.size w (w.alloc (.cells #[.int .u64 term, .int .u64 vote, .int .u64 base, .int .u64 bt, .string snap, .slice a n c] 36)) := (Below.refl _ _).alloc (Nat.le_refl _) _
  have hS := Sc.new w term vote base bt snap a n c
  have hE0 := hE.later B0
  clear hE
  by_cases h3 : baseOk base bt snap
  case neg =>
    have HNO := Lib.hid (show ¬ stOk term vote base bt snap L from fun h => h3 (HI.out.1 h).2.2.1)
    have H3 := Lib.hid h3
    clear h3 HI hS hE0 B0
    go_enter Tryd.func28, Tryd.ntmps28
    go_wp2_with fail
    refine (mayBase_any _ _ _ _ _ _ hs _).mono ?_
    rintro e w1 ⟨⟨b, rfl, hb⟩, hb1⟩
    obtain rfl : b = false := by
      cases b with
      | false => rfl
      | true => exact absurd (hb.1 rfl) H3.out
    have B1 : Below w.heap.size w w1 := ((Below.refl _ w).alloc (Nat.le_refl _) _).trans (hb1.mono (by simp))
    clear hb hb1
    go_wp2_with fail
    go_ret
    exact mayP_no HNO.out B1
  have hbase : base ≤ 1099511627776 := h3.2.1
  by_cases h4 : entsOk base L
  case neg =>
    have HNO := Lib.hid (show ¬ stOk term vote base bt snap L from fun h => h4 (HI.out.1 h).2.2.2.1)
    have H3 := Lib.hid h3
    have H4 := Lib.hid h4
    have HS := Lib.hid hS
    have HE := Lib.hid hE0
    have HB := Lib.hid B0
    clear h3 h4 HI hS hE0 B0
    go_enter Tryd.func28, Tryd.ntmps28
    go_wp2_with fail
    refine (mayBase_any _ _ _ _ _ _ hs _).mono ?_
    rintro e w1 ⟨⟨b, rfl, hb⟩, hb1⟩
    obtain rfl : b = true := hb.2 H3.out
    have hE1 := HE.out.later hb1
    have B1 := HB.out.trans (hb1.mono HB.out.size)
    obtain ⟨x0, x1, x2, x3, x4, x5, xl⟩ := HS.out.later hb1
    clear hb hb1
    go_wp2_with fail
    refine (mayEntries_any n c base bt snap a L HN.out hl hbase HD.out _ hE1).mono ?_
    rintro e w2 ⟨⟨b, rfl, hb⟩, hb2⟩
    obtain rfl : b = false := by
      cases b with
      | false => rfl
      | true => exact absurd (hb.1 rfl) H4.out
    have B2 := B1.trans (hb2.mono B1.size)
    clear hb hb2 hE1 B1 x0 x1 x2 x3 x4 x5 xl
    go_wp2_with fail
    go_ret
    exact mayP_no HNO.out B2
  have hfin : ∀ (b : Bool) (w' : World), (b = true ↔ termsOk term bt L) → Below w.heap.size w w' → MayP (stOk term vote base bt snap L) w (.returned (.bool b)) w' := fun b w' hb hB =>
    ⟨⟨b, rfl, by rw [hb, HI.out]; exact ⟨fun h => ⟨h1, h2, h3, h4, h⟩, fun h => h.2.2.2.2⟩⟩, hB⟩
  have HF := Lib.hid hfin
  have H3 := Lib.hid h3
  have H4 := Lib.hid h4
  have HS := Lib.hid hS
  have HE := Lib.hid hE0
  have HB := Lib.hid B0
  clear h3 h4 HI hS hE0 B0 hfin
  go_enter Tryd.func28, Tryd.ntmps28
  go_wp2_with fail
  refine (mayBase_any _ _ _ _ _ _ hs _).mono ?_
  rintro e w1 ⟨⟨b, rfl, hb⟩, hb1⟩
  obtain rfl : b = true := hb.2 H3.out
  have hE1 := HE.out.later hb1
  have B1 := HB.out.trans (hb1.mono HB.out.size)
  have hS1 := HS.out.later hb1
  obtain ⟨x0, x1, x2, x3, x4, x5, xl⟩ := hS1
  clear hb hb1
  go_wp2_with fail
  refine (mayEntries_any n c base bt snap a L HN.out hl hbase HD.out _ hE1).mono ?_
  rintro e w2 ⟨⟨b, rfl, hb⟩, hb2⟩
  obtain rfl : b = true := hb.2 H4.out
  have hE2 := hE1.later hb2
  have B2 := B1.trans (hb2.mono B1.size)
  obtain ⟨y0, y1, y2, y3, y4, y5, yl⟩ := (Sc.mk x0 x1 x2 x3 x4 x5 xl).later hb2
  clear hb hb2 hE1 B1 x0 x1 x2 x3 x4 x5 xl
  go_wp2_with fail
  refine (mayTerms_any term vote base bt n c snap a L HN.out hl _ hE2).mono ?_
  rintro e w3 ⟨⟨b, rfl, hb⟩, hb3⟩
  have B3 := B2.trans (hb3.mono B2.size)
  have HFB := Lib.hid hb
  clear hb hb3 hE2 B2 y0 y1 y2 y3 y4 y5 yl
  go_wp2_with fail
  go_ret
  exact HF.out b _ HFB.out B3
end Go.Proofs.YtjbhnkigbobhiaaDoor
