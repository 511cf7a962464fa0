/- Compact: the document's. -/
import Derived.Test.YtkifgjgjhjhknaaLj
namespace Go.Proofs.Ytkifgjgjhjhknaa
open Go.RowKit

set_option maxHeartbeats 2000000 in
theorem rCompact_any (base bt n c i : Nat) (snap sn : ByteArray) (a : Option Addr) (L : List En) (hn : L.length = n) (hl : n * 24 ≤ 140737488351232) (hc : n ≤ c) (hcm : c ≤ maxLen) (hb : base < 4611686018427387904) (hi : i < 18446744073709551616) (hs : sn.size ≤ 140737488351232) (w : World) (hE : Ents w a L) :
    Calls Try.prog 27 #[.agg #[.int .u64 base, .int .u64 bt, .string snap, .slice a n c], .int .u64 i, .string sn] w (CmP w ⟨base, bt, snap, L⟩ i sn) := by
  have B0 : Below w.heap.size w ((w.alloc (.cells #[.int .u64 base, .int .u64 bt, .string snap, .slice a n c] 25)).alloc (.cells #[.int .u64 0, .int .u64 0, .string ⟨#[]⟩, .slice none 0 0] 25)) := by go_grown
  have L0 := (Lb.new (w := w) rfl base bt snap (.slice a n c) 25).past (.cells #[.int .u64 0, .int .u64 0, .string ⟨#[]⟩, .slice none 0 0] 25)
  have R0 := Lb.zero (w := (w.alloc (.cells #[.int .u64 base, .int .u64 bt, .string snap, .slice a n c] 25))) (x := w.heap.size + 1) (by simp) 25
  have hE0 := hE.later B0
  obtain ⟨p, hp⟩ : ∃ p, tAt base bt L i = p := ⟨_, rfl⟩
  obtain ⟨t, b⟩ := p
  have hf1 : ¬ (b = true ∧ base < i ∧ sn.size ≤ 4096) → ∀ w', Below w.heap.size w w' → CmP w ⟨base, bt, snap, L⟩ i sn (.returned (.tuple #[.agg #[.int .u64 0, .int .u64 0, .string ⟨#[]⟩, .slice none 0 0], .int .i64 1])) w' := fun h w' hB => by
    refine .inr ⟨fun hh => h ?_, LeP.zero 1 hB⟩
    have h1 := hh.1
    simp only [hp] at h1
    exact ⟨h1, hh.2⟩
  obtain ⟨G, hG⟩ : ∃ G, insG ⟨base, bt, snap, L⟩ i t sn = G := ⟨_, rfl⟩
  have hf0 : (b = true ∧ base < i ∧ sn.size ≤ 4096) → ∀ w' a' m' c', G.L.length = m' → m' ≤ c' → c' ≤ maxLen → Ents w' a' G.L → Below w.heap.size w w' → CmP w ⟨base, bt, snap, L⟩ i sn (.returned (.tuple #[.agg #[.int .u64 G.base, .int .u64 G.bt, .string G.snap, .slice a' m' c'], .int .i64 0])) w' := fun h w' a' m' c' h0 h1 h2 h3 h4 => by
    refine .inl ⟨⟨by simp only [hp]; exact h.1, h.2⟩, ?_⟩
    have e : (tAt (⟨base, bt, snap, L⟩ : Lg).base (⟨base, bt, snap, L⟩ : Lg).bt (⟨base, bt, snap, L⟩ : Lg).L i).1 = t := by simp only [hp]
    rw [e, hG]
    exact ⟨a', c', by rw [h0], by rw [h0]; exact h1, h2, h3, h4⟩
  have HF0 := Lib.hid hf0
  have HF1 := Lib.hid hf1
  have HP := Lib.hid hp
  have HG := Lib.hid hG
  have HE := Lib.hid hE
  have HN := Lib.hid hn
  have hu0 : w.heap.size ≤ w.heap.size + 1 := by omega
  clear hf0 hf1 hp hG hE hn
  go_enter Try.func27, Try.ntmps27
  go_wp2_with fail
  generalize (w.alloc (.cells #[.int .u64 base, .int .u64 bt, .string snap, .slice a n c] 25)).alloc (.cells #[.int .u64 0, .int .u64 0, .string ⟨#[]⟩, .slice none 0 0] 25) = W at *
  refine (rTermAt_any base bt n c i snap a L HN.out (by omega) hb hi _ hE0).mono ?_
  rintro e w1 ⟨rfl, hb1⟩
  rw [HP.out]
  have L1 := L0.later hb1
  have R1 := R0.later hb1
  have B1 := B0.trans (hb1.mono B0.size)
  have hE1 := HE.out.later B1
  clear hb1 L0 R0 B0 hE0
  have HR := Lib.hid R1
  obtain ⟨l0, l1, l2, l3, lz, ll⟩ := L1
  obtain ⟨r0, r1, r2, r3, rz, rl⟩ := R1
  by_cases h0 : i = base
  · have g0 : ((i : Int) == (base : Int)) = true := by simp [h0]
    go_wp2_with fail
    refine bodyPost_ret (v := .tuple #[.agg #[.int .u64 0, .int .u64 0, .string ⟨#[]⟩, .slice none 0 0], .int .i64 1]) (by simp [results, Try.results27, go_sem, r0, r1, r2, r3]) rfl ?_
    exact HF1.out (fun h => by have := h.2.1; omega) _ ((((B1.setCell hu0 _).setCell hu0 _).setCell hu0 _).setCell hu0 _)
  have g0 : ((i : Int) == (base : Int)) = false := by simp; omega
  have HLO := Lib.hid (show b = true → base < i from fun h => by
    have h1 := HP.out
    by_cases h2 : i < base
    · rw [tAt_low bt L h2] at h1; rw [h] at h1; simp at h1
    · omega)
  cases b
  · go_wp2_with fail
    refine bodyPost_ret (v := .tuple #[.agg #[.int .u64 0, .int .u64 0, .string ⟨#[]⟩, .slice none 0 0], .int .i64 1]) (by simp [results, Try.results27, go_sem, r0, r1, r2, r3]) rfl ?_
    exact HF1.out (fun h => by simp at h) _ ((((B1.setCell hu0 _).setCell hu0 _).setCell hu0 _).setCell hu0 _)
  by_cases h2 : 4096 < sn.size
  · have g2 : (4096 : Int) < (sn.size : Int) := by omega
    go_wp2_with fail
    refine bodyPost_ret (v := .tuple #[.agg #[.int .u64 0, .int .u64 0, .string ⟨#[]⟩, .slice none 0 0], .int .i64 1]) (by simp [results, Try.results27, go_sem, r0, r1, r2, r3]) rfl ?_
    exact HF1.out (fun h => by have := h.2.2; omega) _ ((((B1.setCell hu0 _).setCell hu0 _).setCell hu0 _).setCell hu0 _)
  · have g2 : ¬ (4096 : Int) < (sn.size : Int) := by omega
    have HC := Lib.hid (show (true = true ∧ base < i ∧ sn.size ≤ 4096) from ⟨rfl, HLO.out (by first | rfl | trivial), by omega⟩)
    clear h0 h2
    go_wp2_with fail
    refine (rInstall_any base bt n c i t snap sn a L HN.out hl hc hcm hb hi _ hE1).mono ?_
    rintro e w2 ⟨a', c', rfl, h1, h2, h3, hb2⟩
    rw [HG.out] at h1 h3 ⊢
    obtain ⟨m', hm'⟩ : ∃ m', G.L.length = m' := ⟨_, rfl⟩
    rw [hm'] at h1 ⊢
    have HM := Lib.hid hm'
    have B2 := B1.trans (hb2.mono B1.size)
    obtain ⟨s0, s1, s2, s3, sz, sl⟩ := HR.out.later hb2
    have HFR := Lib.hid h3
    clear hm' h3 hb2 l0 l1 l2 l3 lz r0 r1 r2 r3 rz
    go_wp2_with fail
    refine bodyPost_ret (v := .tuple #[.agg #[.int .u64 G.base, .int .u64 G.bt, .string G.snap, .slice a' m' c'], .int .i64 0]) (by simp [results, Try.results27, go_sem, s0, s1, s2, s3]) rfl ?_
    refine (fun B3 => HF0.out HC.out _ _ _ _ HM.out h1 h2 (Fr.out ((((HFR.out.set rl _ _).set rl _ _).set rl _ _).set rl _ _) HE.out B3) B3) ?_
    exact (((B2.setCell hu0 _).setCell hu0 _).setCell hu0 _).setCell hu0 _
end Go.Proofs.Ytkifgjgjhjhknaa
