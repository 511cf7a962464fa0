/- RlogInstalls: a snapshot is put in the place of what is ahead of it, and a log is compacted, as the document says. -/
import Derived.Test.YtkifgjgjhjhknaaLq
import Derived.Test.YtkifgjgjhjhknaaLk
namespace Go.Proofs.Ytkifgjgjhjhknaa
open Go.RowKit

/-- What is held of a log's box while callees make memory. -/
theorem keepS {w wp w2 : World} {x : Nat} {v0 v1 v2 v3 : Value} (K : wp.cell? ⟨x, 0, none⟩ = some v0 ∧ wp.cell? ⟨x, 1, none⟩ = some v1 ∧ wp.cell? ⟨x, 2, none⟩ = some v2 ∧ wp.cell? ⟨x, 3, none⟩ = some v3 ∧ x < wp.heap.size ∧ Below w.heap.size w wp) (hb : Below wp.heap.size wp w2) :
    w2.cell? ⟨x, 0, none⟩ = some v0 ∧ w2.cell? ⟨x, 1, none⟩ = some v1 ∧ w2.cell? ⟨x, 2, none⟩ = some v2 ∧ w2.cell? ⟨x, 3, none⟩ = some v3 ∧ x < w2.heap.size ∧ Below w.heap.size w w2 := by
  obtain ⟨k0, k1, k2, k3, hx, hB⟩ := K
  exact ⟨(hb.cell (p := ⟨x, 0, none⟩) hx).trans k0, (hb.cell (p := ⟨x, 1, none⟩) hx).trans k1, (hb.cell (p := ⟨x, 2, none⟩) hx).trans k2, (hb.cell (p := ⟨x, 3, none⟩) hx).trans k3, Nat.lt_of_lt_of_le hx hb.size, hB.trans (hb.mono hB.size)⟩
theorem insG_len (g : Lg) (i t : Nat) (s : ByteArray) (h : g.L.length ≤ 140737488351232) : (insG g i t s).L.length ≤ 140737488351232 := by
  unfold insG; split
  · exact h
  · simp only; split
    · rw [List.length_drop]; omega
    · simp
/-- Both compact alike. -/
def cmpG (g : Lg) (i : Nat) (s : ByteArray) : Lg × Int := if (tAt g.base g.bt g.L i).2 = true ∧ g.base < i ∧ s.size ≤ 4096 then (insG g i (tAt g.base g.bt g.L i).1 s, 0) else (Lg.zero, 1)
theorem CmP.to {w w' : World} {g : Lg} {i : Nat} {s : ByteArray} {e : Ending} (h : CmP w g i s e w') : LeP w (cmpG g i s).1 (cmpG g i s).2 e w' := by
  rcases h with ⟨h1, h2⟩ | ⟨h1, h2⟩
  · unfold cmpG; unfold cmpOk at h1; rw [if_pos h1]; exact h2
  · unfold cmpG; unfold cmpOk at h1; rw [if_neg h1]; exact h2
theorem cmpG_len (g : Lg) (i : Nat) (s : ByteArray) (h : g.L.length ≤ 140737488351232) : (cmpG g i s).1.L.length ≤ 140737488351232 := by
  unfold cmpG; split
  · exact insG_len _ _ _ _ h
  · simp [Lg.zero]
set_option maxHeartbeats 4000000 in
theorem law_RlogInstalls (base bt n c i t : Nat) (snap s : ByteArray) (a : Option Addr) (L : List En) (hn : L.length = n) (hl : n * 24 ≤ 140737488351232) (hc : n ≤ c) (hcm : c ≤ maxLen) (hi : i < 18446744073709551616) (hs : s.size ≤ 140737488351232) (w : World) (hE : Ents w a L) :
    Calls Try.prog 6 #[.agg #[.int .u64 base, .int .u64 bt, .string snap, .slice a n c, .int .u64 i, .int .u64 t, .string s]] w fun e w' => e = .returned (.bool true) ∧ Below w.heap.size w w' := by
  have HE := Lib.hid hE
  have HN := Lib.hid hn
  have hl' : n ≤ 140737488351232 := by omega
  obtain ⟨G, hG⟩ : ∃ G, insG ⟨base, bt, snap, L⟩ i t s = G := ⟨_, rfl⟩
  obtain ⟨m, hm⟩ : ∃ m, G.L.length = m := ⟨_, rfl⟩
  have hmn : m ≤ 140737488351232 := by rw [← hm, ← hG]; exact insG_len _ _ _ _ (by simp only; omega)
  obtain ⟨C, hC⟩ : ∃ C, cmpG ⟨base, bt, snap, L⟩ i s = C := ⟨_, rfl⟩
  obtain ⟨q, hq⟩ : ∃ q, C.1.L.length = q := ⟨_, rfl⟩
  have hqn : q ≤ 140737488351232 := by rw [← hq, ← hC]; exact cmpG_len _ _ _ (by simp only; omega)
  have HG := Lib.hid hG
  have HM := Lib.hid hm
  have HC := Lib.hid hC
  have HQ := Lib.hid hq
  clear hE hn hG hm hC hq
  by_cases hb : 4611686018427387903 < base
  · have g : (4611686018427387903 : Int) < (base : Int) := by omega
    go_enter Try.func6, Try.ntmps6
    go_wp2_with fail
    have B0 : Below w.heap.size w ((w.alloc (.cells #[.int .u64 base, .int .u64 bt, .string snap, .slice a n c, .int .u64 i, .int .u64 t, .string s] 48)).alloc (.cells #[.int .u64 base, .int .u64 bt, .string snap, .slice a n c] 25)) := by go_grown
    have L0 := Lb.new (w := w.alloc (.cells #[.int .u64 base, .int .u64 bt, .string snap, .slice a n c, .int .u64 i, .int .u64 t, .string s] 48)) (x := w.heap.size + 1) (by simp) base bt snap (.slice a n c) 25
    refine (shown_any _).mono ?_
    rintro e w1 ⟨rfl, hb1⟩
    obtain ⟨l0, l1, l2, l3, lz, ll⟩ := L0.later hb1
    have B1 := B0.trans (hb1.mono B0.size)
    clear hb1 L0
    go_wp2_with fail
    go_ret
    exact ⟨rfl, B1⟩
  have g : ¬ (4611686018427387903 : Int) < (base : Int) := by omega
  have hb' : base < 4611686018427387904 := by omega
  clear hb
  go_enter Try.func6, Try.ntmps6
  go_wp2_with fail
  have B0 : Below w.heap.size w ((w.alloc (.cells #[.int .u64 base, .int .u64 bt, .string snap, .slice a n c, .int .u64 i, .int .u64 t, .string s] 48)).alloc (.cells #[.int .u64 base, .int .u64 bt, .string snap, .slice a n c] 25)) := by go_grown
  have L0 := Lb.new (w := w.alloc (.cells #[.int .u64 base, .int .u64 bt, .string snap, .slice a n c, .int .u64 i, .int .u64 t, .string s] 48)) (x := w.heap.size + 1) (by simp) base bt snap (.slice a n c) 25
  refine (shown_any _).mono ?_
  rintro e w1 ⟨rfl, hb1⟩
  obtain ⟨l0, l1, l2, l3, lz, ll⟩ := L0.later hb1
  have B1 := B0.trans (hb1.mono B0.size)
  clear hb1 L0 B0
  go_wp2_with fail
  have K1 : w1.drew.cell? ⟨w.heap.size + 1, 0, none⟩ = some (.int .u64 base) ∧ w1.drew.cell? ⟨w.heap.size + 1, 1, none⟩ = some (.int .u64 bt) ∧ w1.drew.cell? ⟨w.heap.size + 1, 2, none⟩ = some (.string snap) ∧ w1.drew.cell? ⟨w.heap.size + 1, 3, none⟩ = some (.slice a n c) ∧ w.heap.size + 1 < w1.drew.heap.size ∧ Below w.heap.size w w1.drew := ⟨l0, l1, l2, l3, ll, B1.drew⟩
  clear l0 l1 l2 l3 lz ll B1
  go_region_held3 (fun w' => w'.cell? ⟨w.heap.size + 1, 0, none⟩ = some (.int .u64 base) ∧ w'.cell? ⟨w.heap.size + 1, 1, none⟩ = some (.int .u64 bt) ∧ w'.cell? ⟨w.heap.size + 1, 2, none⟩ = some (.string snap) ∧ w'.cell? ⟨w.heap.size + 1, 3, none⟩ = some (.slice a n c) ∧ w.heap.size + 1 < w'.heap.size ∧ Below w.heap.size w w')
    (first | (with_reducible assumption) | go_keep)
    (first
      | (go_at_call 24; (with_reducible refine (pInstall_any base bt n c i t snap s a L HN.out hl' hc hcm hb' hi _ (HE.out.later K1.2.2.2.2.2)).mono ?_); rintro e w2 ⟨a2, c2, rfl, _, _, hF2, hb2⟩; rw [HG.out] at hF2 ⊢; rw [HM.out]; have K2 := keepS K1 hb2; have HE2 := Lib.hid (hF2.out HE.out K2.2.2.2.2.2); clear hF2)
      | (go_at_call 25; (with_reducible refine (rInstall_any base bt n c i t snap s a L HN.out hl hc hcm hb' hi _ (HE.out.later K2.2.2.2.2.2)).mono ?_); rintro e w3 ⟨a3, c3, rfl, _, _, hF3, hb3⟩; rw [HG.out] at hF3 ⊢; rw [HM.out]; have K3 := keepS K2 hb3; have HE3 := Lib.hid (hF3.out HE.out K3.2.2.2.2.2); have HE2' := Lib.hid (HE2.out.later hb3); clear hF3)
      | (go_at_call 23; (with_reducible refine (rSame_eq G.base G.bt m c2 c3 G.snap a2 a3 G.L HM.out hmn _ HE2'.out HE3.out).mono ?_); rintro e w4 ⟨rfl, hb4⟩; have K4 := keepS K3 hb4))
  all_goals
    obtain ⟨l0, l1, l2, l3, ll, B4⟩ := K4
    clear K1 K2 K3
    go_wp2_with fail
    refine (pCompact_any base bt n c i snap s a L HN.out hl' hc hcm hb' hi hs _ (HE.out.later B4)).mono ?_
    rintro e w5 hP
    obtain ⟨a5, c5, rfl, _, _, hE5, hb5⟩ := hP.to
    rw [HC.out] at hE5 ⊢
    rw [HQ.out]
    have P5 : Below w5.heap.size w5 (w5.alloc (.cells #[.int .u64 C.1.base, .int .u64 C.1.bt, .string C.1.snap, .slice a5 q c5] 25)) := (Below.refl _ _).alloc (Nat.le_refl _) _
    have HY5 := Lib.hid (Lb.new (w := w5) (x := w5.heap.size) rfl C.1.base C.1.bt C.1.snap (.slice a5 q c5) 25)
    have HE5 := Lib.hid (hE5.later P5)
    have q45 := hb5.trans (P5.mono hb5.size)
    obtain ⟨m0, m1, m2, m3, ml, B5⟩ := keepS ⟨l0, l1, l2, l3, ll, B4⟩ q45
    clear hb5 hE5 P5 q45 l0 l1 l2 l3 ll B4 hP
    go_wp2_with fail
    generalize (w5.alloc (.cells #[.int .u64 C.1.base, .int .u64 C.1.bt, .string C.1.snap, .slice a5 q c5] 25)) = W5 at *
    refine (rCompact_any base bt n c i snap s a L HN.out hl hc hcm hb' hi hs _ (HE.out.later B5)).mono ?_
    rintro e w6 hP
    obtain ⟨a6, c6, rfl, _, _, hE6, hb6⟩ := hP.to
    rw [HC.out] at hE6 ⊢
    rw [HQ.out]
    have P6 : Below w6.heap.size w6 (w6.alloc (.cells #[.int .u64 C.1.base, .int .u64 C.1.bt, .string C.1.snap, .slice a6 q c6] 25)) := (Below.refl _ _).alloc (Nat.le_refl _) _
    have HY6 := Lib.hid (Lb.new (w := w6) (x := w6.heap.size) rfl C.1.base C.1.bt C.1.snap (.slice a6 q c6) 25)
    have hE6' := hE6.later P6
    have q56 := hb6.trans (P6.mono hb6.size)
    have hE5' := HE5.out.later q56
    obtain ⟨s0, s1, s2, s3, sz, sl⟩ := HY5.out.later q56
    obtain ⟨t0, t1, t2, t3, tz, tl⟩ := HY6.out
    have B6 := B5.trans (q56.mono B5.size)
    clear hb6 hE6 P6 q56 m0 m1 m2 m3 ml hP
    go_wp2_with fail
    generalize (w6.alloc (.cells #[.int .u64 C.1.base, .int .u64 C.1.bt, .string C.1.snap, .slice a6 q c6] 25)) = W6 at *
    refine (rSame_eq C.1.base C.1.bt q c5 c6 C.1.snap a5 a6 C.1.L HQ.out hqn _ hE5' hE6').mono ?_
    rintro e w7 ⟨rfl, hb7⟩
    have B7 := B6.trans (hb7.mono B6.size)
    clear hb7 hE5' hE6'
    go_wp2_with fail
    go_ret
    exact ⟨by simp, B7⟩
end Go.Proofs.Ytkifgjgjhjhknaa
