/- RlogAdds: an entry is put behind all, or refused, as the document says. -/
import Derived.Test.YtkifgjgjhjhknaaLq
import Derived.Test.YtkifgjgjhjhknaaLa2
namespace Go.Proofs.Ytkifgjgjhjhknaa
open Go.RowKit

theorem addG_len (g : Lg) (x : En) (h : g.L.length ≤ 140737488351231) : (addG g x).L.length ≤ 140737488351232 := by
  unfold addG; split
  · simp; omega
  · simp [Lg.zero]
set_option maxHeartbeats 2000000 in
theorem law_RlogAdds (base bt n c t : Nat) (snap d : ByteArray) (a : Option Addr) (L : List En) (hn : L.length = n) (hl : n * 24 ≤ 140737488351232) (hc : n ≤ c) (hcm : c ≤ maxLen) (w : World) (hE : Ents w a L) :
    Calls Try.prog 5 #[.agg #[.int .u64 base, .int .u64 bt, .string snap, .slice a n c], .agg #[.int .u64 t, .string d]] w fun e w' => e = .returned (.bool true) ∧ Below w.heap.size w w' := by
  have B0 : Below w.heap.size w ((w.alloc (.cells #[.int .u64 base, .int .u64 bt, .string snap, .slice a n c] 25)).alloc (.cells #[.int .u64 t, .string d] 39)) := by go_grown
  have HL0 := Lib.hid ((Lb.new (w := w) rfl base bt snap (.slice a n c) 25).past (.cells #[.int .u64 t, .string d] 39))
  have HX0 := Lib.hid (show ((w.alloc (.cells #[.int .u64 base, .int .u64 bt, .string snap, .slice a n c] 25)).alloc (.cells #[.int .u64 t, .string d] 39)).cell? ⟨w.heap.size + 1, 0, none⟩ = some (.int .u64 t) by simp [go_sem])
  have HX1 := Lib.hid (show ((w.alloc (.cells #[.int .u64 base, .int .u64 bt, .string snap, .slice a n c] 25)).alloc (.cells #[.int .u64 t, .string d] 39)).cell? ⟨w.heap.size + 1, 1, none⟩ = some (.string d) by simp [go_sem])
  have hz : w.heap.size + 1 < ((w.alloc (.cells #[.int .u64 base, .int .u64 bt, .string snap, .slice a n c] 25)).alloc (.cells #[.int .u64 t, .string d] 39)).heap.size := by simp
  have HE := Lib.hid hE
  have HN := Lib.hid hn
  have hl' : n ≤ 140737488351232 := by omega
  obtain ⟨G, hG⟩ : ∃ G, addG ⟨base, bt, snap, L⟩ ⟨t, d⟩ = G := ⟨_, rfl⟩
  obtain ⟨k, hk⟩ : ∃ k, addE ⟨base, bt, snap, L⟩ ⟨t, d⟩ = k := ⟨_, rfl⟩
  obtain ⟨m, hm⟩ : ∃ m, G.L.length = m := ⟨_, rfl⟩
  have hmn : m ≤ 140737488351232 := by rw [← hm, ← hG]; exact addG_len _ _ (by simp only; omega)
  have HG := Lib.hid hG
  have HK := Lib.hid hk
  have HML := Lib.hid hm
  clear hE hn hG hk hm
  by_cases hb : 4611686018427387903 < base
  · have g : (4611686018427387903 : Int) < (base : Int) := by omega
    go_enter Try.func5, Try.ntmps5
    go_wp2_with fail
    refine (shown_any _).mono ?_
    rintro e w1 ⟨rfl, hb1⟩
    obtain ⟨l0, l1, l2, l3, lz, ll⟩ := HL0.out.later hb1
    have B1 := B0.trans (hb1.mono B0.size)
    clear hb1
    go_wp2_with fail
    go_ret
    exact ⟨rfl, B1⟩
  have g : ¬ (4611686018427387903 : Int) < (base : Int) := by omega
  have hb' : base < 4611686018427387904 := by omega
  clear hb
  go_enter Try.func5, Try.ntmps5
  go_wp2_with fail
  generalize ((w.alloc (.cells #[.int .u64 base, .int .u64 bt, .string snap, .slice a n c] 25)).alloc (.cells #[.int .u64 t, .string d] 39)) = W at *
  refine (shown_any _).mono ?_
  rintro e w1 ⟨rfl, hb1⟩
  have HL1 := Lib.hid (HL0.out.later hb1)
  obtain ⟨l0, l1, l2, l3, lz, ll⟩ := HL1.out
  have x0 := (hb1.cell (p := ⟨w.heap.size + 1, 0, none⟩) hz).trans HX0.out
  have x1 := (hb1.cell (p := ⟨w.heap.size + 1, 1, none⟩) hz).trans HX1.out
  have hz1 : w.heap.size + 1 < w1.heap.size := Nat.lt_of_lt_of_le hz hb1.size
  have B1 := B0.trans (hb1.mono B0.size)
  clear hb1 B0
  go_wp2_with fail
  refine (pAdd_any base bt n c t snap d a L HN.out hl' hc hcm hb' _ (HE.out.later B1)).mono ?_
  rintro e w2 ⟨a2, c2, rfl, _, _, hE2, hb2⟩
  rw [HG.out] at hE2 ⊢
  rw [HML.out, HK.out]
  have P2 : Below w2.heap.size w2 (w2.alloc (.cells #[.int .u64 G.base, .int .u64 G.bt, .string G.snap, .slice a2 m c2] 25)) := (Below.refl _ _).alloc (Nat.le_refl _) _
  have HY2 := Lib.hid (Lb.new (w := w2) (x := w2.heap.size) rfl G.base G.bt G.snap (.slice a2 m c2) 25)
  have HE2 := Lib.hid (hE2.later P2)
  have q12 := hb2.trans (P2.mono hb2.size)
  obtain ⟨m0, m1, m2, m3, mz, ml⟩ := HL1.out.later q12
  have y0 := (q12.cell (p := ⟨w.heap.size + 1, 0, none⟩) hz1).trans x0
  have y1 := (q12.cell (p := ⟨w.heap.size + 1, 1, none⟩) hz1).trans x1
  have B2 := B1.trans (q12.mono B1.size)
  clear hb2 hE2 P2 q12 l0 l1 l2 l3 lz x0 x1
  go_wp2_with fail
  generalize (w2.alloc (.cells #[.int .u64 G.base, .int .u64 G.bt, .string G.snap, .slice a2 m c2] 25)) = W2 at *
  refine (rAdd_any base bt n c t snap d a L HN.out hl' hb' _ (HE.out.later B2)).mono ?_
  rintro e w3 ⟨a3, c3, rfl, _, _, hE3, hb3⟩
  rw [HG.out] at hE3 ⊢
  rw [HML.out, HK.out]
  have P3 : Below w3.heap.size w3 (w3.alloc (.cells #[.int .u64 G.base, .int .u64 G.bt, .string G.snap, .slice a3 m c3] 25)) := (Below.refl _ _).alloc (Nat.le_refl _) _
  have HY3 := Lib.hid (Lb.new (w := w3) (x := w3.heap.size) rfl G.base G.bt G.snap (.slice a3 m c3) 25)
  have hE3' := hE3.later P3
  have q23 := hb3.trans (P3.mono hb3.size)
  have hE2' := HE2.out.later q23
  obtain ⟨s0, s1, s2, s3, sz, sl⟩ := HY2.out.later q23
  obtain ⟨t0, t1, t2, t3, tz, tl⟩ := HY3.out
  have B3 := B2.trans (q23.mono B2.size)
  clear hb3 hE3 P3 q23 m0 m1 m2 m3 mz y0 y1
  go_wp2_with fail
  generalize (w3.alloc (.cells #[.int .u64 G.base, .int .u64 G.bt, .string G.snap, .slice a3 m c3] 25)) = W3 at *
  refine (rSame_eq G.base G.bt m c2 c3 G.snap a2 a3 G.L HML.out hmn _ hE2' hE3').mono ?_
  rintro e w4 ⟨rfl, hb4⟩
  have B4 := B3.trans (hb4.mono B3.size)
  clear hb4 hE2' hE3'
  go_wp2_with fail
  go_ret
  exact ⟨by simp, B4⟩
end Go.Proofs.Ytkifgjgjhjhknaa
