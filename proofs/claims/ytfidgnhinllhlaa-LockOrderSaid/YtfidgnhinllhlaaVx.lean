/- The law LockOrder. -/
import Derived.Test.YtfidgnhinllhlaaVw
namespace Go.Proofs.Ytfidgnhinllhlaa
open Go.RowKit

set_option maxRecDepth 100000 in
set_option maxHeartbeats 4000000 in
theorem law_LockOrder {TT : World → Prop} (P : PLocks TT) (a b c : Tx) (w : World) (hT : TT w) : Calls Try.prog 8 #[txV a, txV b, txV c] w fun e w' => e = .returned (.bool true) ∧ Below w.heap.size w w' := by
  have HS := Lib.hid (fun w' (hb : Below w.heap.size w w') => shown_any P w' (P.below hT hb))
  have H1 := Lib.hid (fun w' (hb : Below w.heap.size w w') => P.elder a b w' (P.below hT hb))
  have H2 := Lib.hid (fun w' (hb : Below w.heap.size w w') => P.elder b a w' (P.below hT hb))
  have H3 := Lib.hid (fun w' (hb : Below w.heap.size w w') => P.elder b c w' (P.below hT hb))
  have H4 := Lib.hid (fun w' (hb : Below w.heap.size w w') => P.elder a c w' (P.below hT hb))
  obtain ⟨x, hx⟩ : ∃ x, eldT a b = x := ⟨_, rfl⟩
  obtain ⟨y, hy⟩ : ∃ y, eldT b a = y := ⟨_, rfl⟩
  obtain ⟨z, hz⟩ : ∃ z, eldT b c = z := ⟨_, rfl⟩
  obtain ⟨u, hu⟩ : ∃ u, eldT a c = u := ⟨_, rfl⟩
  rw [hx] at H1
  rw [hy] at H2
  rw [hz] at H3
  rw [hu] at H4
  have HE := Lib.hid (show a = b → x = false ∧ y = false from fun h => by subst h; rw [eld_irrefl] at hx hy; exact ⟨hx.symm, hy.symm⟩)
  have HN := Lib.hid (show a ≠ b → x = !y from fun h => by rw [← hx, ← hy]; exact eld_one h)
  have HU := Lib.hid (show x = true → z = true → u = true from fun h1 h2 => by rw [← hu]; rw [h1] at hx; rw [h2] at hz; exact eld_trans hx hz)
  clear hx hy hz hu P hT
  obtain ⟨aa, ai⟩ := a
  obtain ⟨ba, bi⟩ := b
  obtain ⟨ca, ci⟩ := c
  have HC : Hid (∀ W, ((w.alloc (.cells #[.int .u64 (aa : Nat), .int .u64 (ai : Nat)] 25)).alloc (.cells #[.int .u64 (ba : Nat), .int .u64 (bi : Nat)] 25)).alloc (.cells #[.int .u64 (ca : Nat), .int .u64 (ci : Nat)] 25) = W → Below w.heap.size w W ∧ TxBox W w.heap.size ⟨aa, ai⟩ ∧ TxBox W (w.heap.size + 1) ⟨ba, bi⟩ ∧ TxBox W (w.heap.size + 2) ⟨ca, ci⟩) := Lib.hid (fun W hW => by
    obtain ⟨g1, B1⟩ := txbox (w := w) (a := aa) (i := ai) rfl
    obtain ⟨g2, B2⟩ := txbox (w := w.alloc (.cells #[.int .u64 (aa : Nat), .int .u64 (ai : Nat)] 25)) (a := ba) (i := bi) rfl
    obtain ⟨g3, B3⟩ := txbox hW
    refine ⟨(g1.trans (g2.mono g1.size)).trans (g3.mono (g1.trans (g2.mono g1.size)).size), (B1.later g2).later g3, ?_, ?_⟩
    · have := B2.later g3; simpa using this
    · simpa using B3)
  go_enter Try.func8, Try.ntmps8
  go_wp2_with fail
  generalize hW : ((w.alloc (.cells #[.int .u64 (aa : Nat), .int .u64 (ai : Nat)] 25)).alloc (.cells #[.int .u64 (ba : Nat), .int .u64 (bi : Nat)] 25)).alloc (.cells #[.int .u64 (ca : Nat), .int .u64 (ci : Nat)] 25) = W
  obtain ⟨hB, T1, T2, T3⟩ := HC.out W hW
  refine (HS.out _ hB).mono ?_
  rintro e w1 ⟨rfl, hb1⟩
  have HB1 := Lib.hid (hB.trans (hb1.mono hB.size))
  have A1 := Lib.hid (T1.later hb1)
  have A2 := Lib.hid (T2.later hb1)
  have A3 := Lib.hid (T3.later hb1)
  obtain ⟨_, p0, p1⟩ := A1.out
  obtain ⟨_, q0, q1⟩ := A2.out
  clear hb1 T1 T2 T3 hB hW HC
  go_wp2_with fail
  refine (H1.out _ HB1.out).mono ?_
  rintro e w2 ⟨rfl, hb2⟩
  have HB2 := Lib.hid (HB1.out.trans (hb2.mono HB1.out.size))
  have A1 := Lib.hid (A1.out.later hb2)
  have A2 := Lib.hid (A2.out.later hb2)
  have A3 := Lib.hid (A3.out.later hb2)
  clear p0 p1 q0 q1 hb2
  obtain ⟨_, p0, p1⟩ := A1.out
  obtain ⟨_, q0, q1⟩ := A2.out
  go_wp2_with fail
  refine (H2.out _ HB2.out).mono ?_
  rintro e w3 ⟨rfl, hb3⟩
  have HB3 := Lib.hid (HB2.out.trans (hb3.mono HB2.out.size))
  have A1 := Lib.hid (A1.out.later hb3)
  have A2 := Lib.hid (A2.out.later hb3)
  have A3 := Lib.hid (A3.out.later hb3)
  clear p0 p1 q0 q1 hb3
  obtain ⟨_, p0, p1⟩ := A1.out
  obtain ⟨_, q0, q1⟩ := A2.out
  obtain ⟨_, r0, r1⟩ := A3.out
  go_wp2_with fail
  refine (H3.out _ HB3.out).mono ?_
  rintro e w4 ⟨rfl, hb4⟩
  have HB4 := Lib.hid (HB3.out.trans (hb4.mono HB3.out.size))
  have A1 := Lib.hid (A1.out.later hb4)
  have A2 := Lib.hid (A2.out.later hb4)
  have A3 := Lib.hid (A3.out.later hb4)
  clear p0 p1 q0 q1 hb4 r0 r1
  obtain ⟨_, p0, p1⟩ := A1.out
  obtain ⟨_, q0, q1⟩ := A2.out
  obtain ⟨_, r0, r1⟩ := A3.out
  by_cases hab : (⟨aa, ai⟩ : Tx) = ⟨ba, bi⟩
  · obtain ⟨rfl, rfl⟩ := HE.out hab
    cases hab
    go_wp2_with fail
    go_ret
    exact ⟨by first | rfl | simp, HB4.out⟩
  have hxy := HN.out hab
  rcases tx_ne hab with g | ⟨rfl, g⟩
  · cases y
    · obtain rfl : x = true := hxy
      cases z
      · go_wp2_with fail
        go_ret
        exact ⟨by first | rfl | simp, HB4.out⟩
      · obtain rfl : u = true := HU.out rfl rfl
        go_wp2_with fail
        refine (H4.out _ HB4.out).mono ?_
        rintro e w5 ⟨rfl, hb5⟩
        have HB5 := Lib.hid (HB4.out.trans (hb5.mono HB4.out.size))
        clear hb5
        go_wp2_with fail
        go_ret
        exact ⟨by first | rfl | simp, HB5.out⟩
    · obtain rfl : x = false := hxy
      go_wp2_with fail
      go_ret
      exact ⟨by first | rfl | simp, HB4.out⟩
  · cases y
    · obtain rfl : x = true := hxy
      cases z
      · go_wp2_with fail
        go_ret
        exact ⟨by first | rfl | simp, HB4.out⟩
      · obtain rfl : u = true := HU.out rfl rfl
        go_wp2_with fail
        refine (H4.out _ HB4.out).mono ?_
        rintro e w5 ⟨rfl, hb5⟩
        have HB5 := Lib.hid (HB4.out.trans (hb5.mono HB4.out.size))
        clear hb5
        go_wp2_with fail
        go_ret
        exact ⟨by first | rfl | simp, HB5.out⟩
    · obtain rfl : x = false := hxy
      go_wp2_with fail
      go_ret
      exact ⟨by first | rfl | simp, HB4.out⟩
end Go.Proofs.Ytfidgnhinllhlaa
