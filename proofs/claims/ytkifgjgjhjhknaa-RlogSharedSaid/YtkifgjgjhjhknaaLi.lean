/- Install and Compact: the program's and the document's. -/
import Derived.Test.YtkifgjgjhjhknaaLz
import Derived.Deep.DeepCutAuto
namespace Go.Proofs.Ytkifgjgjhjhknaa
open Go.RowKit

/-- A log behind a snapshot. -/
def insG (g : Lg) (i term : Nat) (snap : ByteArray) : Lg := if i ≤ g.base then g else ⟨i, term, snap, if hasB g.base g.bt g.L i term then g.L.drop (i - g.base) else []⟩
/-- Entries that are a piece of elder ones, or lie in memory that was made since w. -/
def Fr (w : World) (a0 : Option Addr) (L0 : List En) (w' : World) (a : Option Addr) (L : List En) : Prop := (∀ w0, Ents w0 a0 L0 → Ents w0 a L) ∨ (Ents w' a L ∧ ∀ q, a = some q → w.heap.size ≤ q.block)
theorem Fr.same (w : World) (a0 : Option Addr) (L0 : List En) (w' : World) : Fr w a0 L0 w' a0 L0 := .inl fun _ h => h
theorem Fr.nil (w : World) (a0 : Option Addr) (L0 : List En) (w' : World) (a : Option Addr) : Fr w a0 L0 w' a [] := .inl fun _ _ => Ents.nil _ _
theorem Fr.set {w w' : World} {a0 a : Option Addr} {L0 L : List En} (h : Fr w a0 L0 w' a L) {x : Nat} (hx : x < w.heap.size) (o : Nat) (v : Value) : Fr w a0 L0 (w'.setCell ⟨x, o, none⟩ v) a L :=
  h.imp id fun ⟨h1, h2⟩ => ⟨h1.set (fun q e => by have := h2 q e; omega) _ _, h2⟩
theorem Fr.late {w w1 w' : World} {a0 a : Option Addr} {L0 L : List En} (h : Fr w a0 L0 w1 a L) (hb : Below w1.heap.size w1 w') : Fr w a0 L0 w' a L := h.imp id fun ⟨h1, h2⟩ => ⟨h1.later hb, h2⟩
theorem Fr.mono {w1 w w' : World} {a0 a : Option Addr} {L0 L : List En} (h : Fr w1 a0 L0 w' a L) (hw : w.heap.size ≤ w1.heap.size) : Fr w a0 L0 w' a L :=
  h.imp id fun ⟨h1, h2⟩ => ⟨h1, fun q e => Nat.le_trans hw (h2 q e)⟩
theorem Fr.out {w w1 w' : World} {a0 a : Option Addr} {L0 L : List En} (h : Fr w1 a0 L0 w' a L) (hE : Ents w a0 L0) (hB : Below w.heap.size w w') : Ents w' a L := by
  rcases h with h | ⟨h, _⟩
  · exact (h _ hE).later hB
  · exact h
/-- What a call that gives a log answers. -/
def LoP (w : World) (a0 : Option Addr) (L0 : List En) (g : Lg) (e : Ending) (w' : World) : Prop := ∃ a c, e = .returned (.agg #[.int .u64 g.base, .int .u64 g.bt, .string g.snap, .slice a g.L.length c]) ∧ g.L.length ≤ c ∧ c ≤ maxLen ∧ Fr w a0 L0 w' a g.L ∧ Below w.heap.size w w'
set_option maxHeartbeats 2000000 in
theorem pInstall_any (base bt n c i term : Nat) (snap sn : ByteArray) (a : Option Addr) (L : List En) (hn : L.length = n) (hl : n ≤ 140737488351232) (hc : n ≤ c) (hcm : c ≤ maxLen) (hb : base < 4611686018427387904) (hi : i < 18446744073709551616) (w : World) (hE : Ents w a L) :
    Calls Try.prog 24 #[.agg #[.int .u64 base, .int .u64 bt, .string snap, .slice a n c], .int .u64 i, .int .u64 term, .string sn] w (LoP w a L (insG ⟨base, bt, snap, L⟩ i term sn)) := by
  have B0 : Below w.heap.size w ((w.alloc (.cells #[.int .u64 base, .int .u64 bt, .string snap, .slice a n c] 25)).alloc (.cells #[.int .u64 0, .int .u64 0, .string ⟨#[]⟩, .slice none 0 0] 25)) := by go_grown
  have L0 := (Lb.new (w := w) rfl base bt snap (.slice a n c) 25).past (.cells #[.int .u64 0, .int .u64 0, .string ⟨#[]⟩, .slice none 0 0] 25)
  have R0 := Lb.zero (w := (w.alloc (.cells #[.int .u64 base, .int .u64 bt, .string snap, .slice a n c] 25))) (x := w.heap.size + 1) (by simp) 25
  have hE0 := hE.later B0
  have HE := Lib.hid hE
  have HN := Lib.hid hn
  by_cases h1 : i ≤ base
  · have g1 : (i : Int) ≤ (base : Int) := by omega
    have hf : ∀ w', Below w.heap.size w w' → LoP w a L (insG ⟨base, bt, snap, L⟩ i term sn) (.returned (.agg #[.int .u64 base, .int .u64 bt, .string snap, .slice a n c])) w' := fun w' hB => by
      unfold insG; rw [if_pos h1]; exact ⟨a, c, by rw [← hn], by rw [hn]; exact hc, hcm, Fr.same _ _ _ _, hB⟩
    have HF := Lib.hid hf
    clear hf hn hE hE0
    go_enter Try.func24, Try.ntmps24
    go_wp2_with fail
    refine bodyPost_ret (v := .agg #[.int .u64 base, .int .u64 bt, .string snap, .slice a n c]) (by simp [results, Try.results24, go_sem]) rfl ?_
    exact HF.out _ (by go_grown)
  have g1 : ¬ (i : Int) ≤ (base : Int) := by omega
  obtain ⟨M, hM⟩ : ∃ M, L.drop (i - base) = M := ⟨_, rfl⟩
  obtain ⟨m, hm⟩ : ∃ m, M.length = m := ⟨_, rfl⟩
  obtain ⟨b, hhb⟩ : ∃ b, hasB base bt L i term = b := ⟨_, rfl⟩
  have hf0 : b = false → ∀ w', Below w.heap.size w w' → LoP w a L (insG ⟨base, bt, snap, L⟩ i term sn) (.returned (.agg #[.int .u64 i, .int .u64 term, .string sn, .slice none 0 0])) w' := fun h w' hB => by
    unfold insG; rw [if_neg h1, hhb, h]; exact ⟨none, 0, rfl, Nat.le_refl _, by decide, Fr.nil _ _ _ _ _, hB⟩
  have hf1 : b = true → ∀ w' a', Fr w a L w' a' M → Below w.heap.size w w' → LoP w a L (insG ⟨base, bt, snap, L⟩ i term sn) (.returned (.agg #[.int .u64 i, .int .u64 term, .string sn, .slice a' m m])) w' := fun h w' a' hE' hB => by
    unfold insG; rw [if_neg h1, hhb, h]; simp only [if_true]; rw [hM]
    have hmn : m ≤ n := by rw [← hm, ← hM, List.length_drop]; omega
    exact ⟨a', m, by rw [hm], by rw [hm]; exact Nat.le_refl _, by unfold maxLen at *; omega, hE', hB⟩
  have HF0 := Lib.hid hf0
  have HF1 := Lib.hid hf1
  have HM := Lib.hid hM
  have HL := Lib.hid hm
  have HH := Lib.hid hhb
  have hbi : base ≤ i := by omega
  have z1 : w.heap.size + 1 < ((w.alloc (.cells #[.int .u64 base, .int .u64 bt, .string snap, .slice a n c] 25)).alloc (.cells #[.int .u64 0, .int .u64 0, .string ⟨#[]⟩, .slice none 0 0] 25)).heap.size := by simp
  have hz : ((w.alloc (.cells #[.int .u64 base, .int .u64 bt, .string snap, .slice a n c] 25)).alloc (.cells #[.int .u64 0, .int .u64 0, .string ⟨#[]⟩, .slice none 0 0] 25)).heap.size = w.heap.size + 1 + 1 := by simp
  have hu0 : w.heap.size ≤ w.heap.size + 1 := by omega
  clear hf0 hf1 hM hm hhb hE hn h1
  go_enter Try.func24, Try.ntmps24
  go_wp2_with fail
  have B1 := B0.alloc B0.size (.cells #[.int .u64 i, .int .u64 term, .string sn, .slice none 0 0] 25)
  have L1 := L0.past (.cells #[.int .u64 i, .int .u64 term, .string sn, .slice none 0 0] 25)
  have R1 := R0.past (.cells #[.int .u64 i, .int .u64 term, .string sn, .slice none 0 0] 25)
  have N1 := Lb.new (w := ((w.alloc (.cells #[.int .u64 base, .int .u64 bt, .string snap, .slice a n c] 25)).alloc (.cells #[.int .u64 0, .int .u64 0, .string ⟨#[]⟩, .slice none 0 0] 25))) (x := w.heap.size + 1 + 1) hz.symm i term sn (.slice none 0 0) 25
  have hE1 := HE.out.later B1
  generalize ((w.alloc (.cells #[.int .u64 base, .int .u64 bt, .string snap, .slice a n c] 25)).alloc (.cells #[.int .u64 0, .int .u64 0, .string ⟨#[]⟩, .slice none 0 0] 25)).alloc (.cells #[.int .u64 i, .int .u64 term, .string sn, .slice none 0 0] 25) = W at *
  refine (pHas_any base bt n c i term snap a L HN.out hl hb hi _ hE1).mono ?_
  rintro e w1 ⟨rfl, hb1⟩
  rw [HH.out]
  have L2 := L1.later hb1
  have R2 := R1.later hb1
  have N2 := N1.later hb1
  have B2 := B1.trans (hb1.mono B1.size)
  have hE2 := HE.out.later B2
  clear hb1 B1 L1 R1 N1 hE1 L0 R0 B0 hE0
  have HN2 := Lib.hid N2
  have HR2 := Lib.hid R2
  obtain ⟨l0, l1, l2, l3, lz, ll⟩ := L2
  obtain ⟨r0, r1, r2, r3, rz, rl⟩ := R2
  obtain ⟨n0, n1, n2, n3, nz, nl⟩ := N2
  cases b
  · go_wp2_with fail
    refine bodyPost_ret (v := .agg #[.int .u64 i, .int .u64 term, .string sn, .slice none 0 0]) (by simp [results, Try.results24, go_sem, r0, r1, r2, r3]) rfl ?_
    exact HF0.out (by first | rfl | trivial) _ ((((B2.setCell hu0 _).setCell hu0 _).setCell hu0 _).setCell hu0 _)
  · go_wp2_with fail
    refine (pBehind_any base bt n c i snap a L HN.out hl hc hcm hb hi hbi _ hE2).mono ?_
    rintro e w2 ⟨a', rfl, hE3, hb2⟩
    rw [HM.out] at hE3 ⊢
    rw [HL.out]
    have B3 := B2.trans (hb2.mono B2.size)
    obtain ⟨p0, p1, p2, p3, pz, pl⟩ := HN2.out.later hb2
    obtain ⟨s0, s1, s2, s3, sz, sl⟩ := HR2.out.later hb2
    have HE4 := Lib.hid hE3
    have hu1 : w.heap.size ≤ w.heap.size + 1 + 1 := by omega
    clear hb2 hE3 l0 l1 l2 l3 lz r0 r1 r2 r3 rz n0 n1 n2 n3 nz hE2
    go_wp2_with fail
    refine bodyPost_ret (v := .agg #[.int .u64 i, .int .u64 term, .string sn, .slice a' m m]) (by simp [results, Try.results24, go_sem, s0, s1, s2, s3]) rfl ?_
    refine (fun B4 => HF1.out (by first | rfl | trivial) _ _ (.inl HE4.out) B4) ?_
    exact ((((B3.setCell hu1 _).setCell hu0 _).setCell hu0 _).setCell hu0 _).setCell hu0 _
/-- Compact's error, and its log. -/
def cmpOk (g : Lg) (i : Nat) (snap : ByteArray) : Prop := (tAt g.base g.bt g.L i).2 = true ∧ g.base < i ∧ snap.size ≤ 4096
def CmP (w : World) (g : Lg) (i : Nat) (snap : ByteArray) (e : Ending) (w' : World) : Prop := (cmpOk g i snap ∧ LeP w (insG g i (tAt g.base g.bt g.L i).1 snap) 0 e w') ∨ (¬ cmpOk g i snap ∧ LeP w Lg.zero 1 e w')
set_option maxHeartbeats 2000000 in
theorem pCompact_any (base bt n c i : Nat) (snap sn : ByteArray) (a : Option Addr) (L : List En) (hn : L.length = n) (hl : n ≤ 140737488351232) (hc : n ≤ c) (hcm : c ≤ maxLen) (hb : base < 4611686018427387904) (hi : i < 18446744073709551616) (hs : sn.size ≤ 140737488351232) (w : World) (hE : Ents w a L) :
    Calls Try.prog 26 #[.agg #[.int .u64 base, .int .u64 bt, .string snap, .slice a n c], .int .u64 i, .string sn] w (CmP w ⟨base, bt, snap, L⟩ i sn) := by
  have B0 : Below w.heap.size w ((w.alloc (.cells #[.int .u64 base, .int .u64 bt, .string snap, .slice a n c] 25)).alloc (.cells #[.int .u64 0, .int .u64 0, .string ⟨#[]⟩, .slice none 0 0] 25)) := by go_grown
  have L0 := (Lb.new (w := w) rfl base bt snap (.slice a n c) 25).past (.cells #[.int .u64 0, .int .u64 0, .string ⟨#[]⟩, .slice none 0 0] 25)
  have R0 := Lb.zero (w := (w.alloc (.cells #[.int .u64 base, .int .u64 bt, .string snap, .slice a n c] 25))) (x := w.heap.size + 1) (by simp) 25
  have hE0 := hE.later B0
  obtain ⟨p, hp⟩ : ∃ p, tAt base bt L i = p := ⟨_, rfl⟩
  obtain ⟨t, b⟩ := p
  have hf1 : ¬ (b = true ∧ base < i ∧ sn.size ≤ 4096) → ∀ w', Below w.heap.size w w' → CmP w ⟨base, bt, snap, L⟩ i sn (.returned (.tuple #[.agg #[.int .u64 0, .int .u64 0, .string ⟨#[]⟩, .slice none 0 0], .int .i64 1])) w' := fun h w' hB => by
    refine .inr ⟨fun hh => h ?_, LeP.zero 1 hB⟩
    have h1 := hh.1
    simp only [hp] at h1
    exact ⟨h1, hh.2⟩
  obtain ⟨G, hG⟩ : ∃ G, insG ⟨base, bt, snap, L⟩ i t sn = G := ⟨_, rfl⟩
  have hf0 : (b = true ∧ base < i ∧ sn.size ≤ 4096) → ∀ w' a' m' c', G.L.length = m' → m' ≤ c' → c' ≤ maxLen → Ents w' a' G.L → Below w.heap.size w w' → CmP w ⟨base, bt, snap, L⟩ i sn (.returned (.tuple #[.agg #[.int .u64 G.base, .int .u64 G.bt, .string G.snap, .slice a' m' c'], .int .i64 0])) w' := fun h w' a' m' c' h0 h1 h2 h3 h4 => by
    refine .inl ⟨⟨by simp only [hp]; exact h.1, h.2⟩, ?_⟩
    have e : (tAt (⟨base, bt, snap, L⟩ : Lg).base (⟨base, bt, snap, L⟩ : Lg).bt (⟨base, bt, snap, L⟩ : Lg).L i).1 = t := by simp only [hp]
    rw [e, hG]
    exact ⟨a', c', by rw [h0], by rw [h0]; exact h1, h2, h3, h4⟩
  have HF0 := Lib.hid hf0
  have HF1 := Lib.hid hf1
  have HP := Lib.hid hp
  have HG := Lib.hid hG
  have HE := Lib.hid hE
  have HN := Lib.hid hn
  have hu0 : w.heap.size ≤ w.heap.size + 1 := by omega
  clear hf0 hf1 hp hG hE hn
  go_enter Try.func26, Try.ntmps26
  go_wp2_with fail
  generalize (w.alloc (.cells #[.int .u64 base, .int .u64 bt, .string snap, .slice a n c] 25)).alloc (.cells #[.int .u64 0, .int .u64 0, .string ⟨#[]⟩, .slice none 0 0] 25) = W at *
  refine (pTermAt_any base bt n c i snap a L HN.out hl hb hi _ hE0).mono ?_
  rintro e w1 ⟨rfl, hb1⟩
  rw [HP.out]
  have L1 := L0.later hb1
  have R1 := R0.later hb1
  have B1 := B0.trans (hb1.mono B0.size)
  have hE1 := HE.out.later B1
  clear hb1 L0 R0 B0 hE0
  have HR := Lib.hid R1
  obtain ⟨l0, l1, l2, l3, lz, ll⟩ := L1
  obtain ⟨r0, r1, r2, r3, rz, rl⟩ := R1
  cases b
  · go_wp2_with fail
    refine bodyPost_ret (v := .tuple #[.agg #[.int .u64 0, .int .u64 0, .string ⟨#[]⟩, .slice none 0 0], .int .i64 1]) (by simp [results, Try.results26, go_sem, r0, r1, r2, r3]) rfl ?_
    exact HF1.out (fun h => by simp at h) _ ((((B1.setCell hu0 _).setCell hu0 _).setCell hu0 _).setCell hu0 _)
  by_cases h1 : i ≤ base
  · have g1 : (i : Int) ≤ (base : Int) := by omega
    go_wp2_with fail
    refine bodyPost_ret (v := .tuple #[.agg #[.int .u64 0, .int .u64 0, .string ⟨#[]⟩, .slice none 0 0], .int .i64 1]) (by simp [results, Try.results26, go_sem, r0, r1, r2, r3]) rfl ?_
    exact HF1.out (fun h => by have := h.2.1; omega) _ ((((B1.setCell hu0 _).setCell hu0 _).setCell hu0 _).setCell hu0 _)
  have g1 : ¬ (i : Int) ≤ (base : Int) := by omega
  by_cases h2 : 4096 < sn.size
  · have g2 : (4096 : Int) < (sn.size : Int) := by omega
    go_wp2_with fail
    refine bodyPost_ret (v := .tuple #[.agg #[.int .u64 0, .int .u64 0, .string ⟨#[]⟩, .slice none 0 0], .int .i64 1]) (by simp [results, Try.results26, go_sem, r0, r1, r2, r3]) rfl ?_
    exact HF1.out (fun h => by have := h.2.2; omega) _ ((((B1.setCell hu0 _).setCell hu0 _).setCell hu0 _).setCell hu0 _)
  · have g2 : ¬ (4096 : Int) < (sn.size : Int) := by omega
    have HC := Lib.hid (show (true = true ∧ base < i ∧ sn.size ≤ 4096) from ⟨rfl, by omega, by omega⟩)
    clear h1 h2
    go_wp2_with fail
    refine (pInstall_any base bt n c i t snap sn a L HN.out hl hc hcm hb hi _ hE1).mono ?_
    rintro e w2 ⟨a', c', rfl, h1, h2, h3, hb2⟩
    rw [HG.out] at h1 h3 ⊢
    obtain ⟨m', hm'⟩ : ∃ m', G.L.length = m' := ⟨_, rfl⟩
    rw [hm'] at h1 ⊢
    have HM := Lib.hid hm'
    have B2 := B1.trans (hb2.mono B1.size)
    obtain ⟨s0, s1, s2, s3, sz, sl⟩ := HR.out.later hb2
    have HFR := Lib.hid h3
    clear hm' h3 hb2 l0 l1 l2 l3 lz r0 r1 r2 r3 rz
    go_wp2_with fail
    refine bodyPost_ret (v := .tuple #[.agg #[.int .u64 G.base, .int .u64 G.bt, .string G.snap, .slice a' m' c'], .int .i64 0]) (by simp [results, Try.results26, go_sem, s0, s1, s2, s3]) rfl ?_
    refine (fun B3 => HF0.out HC.out _ _ _ _ HM.out h1 h2 (Fr.out ((((HFR.out.set rl _ _).set rl _ _).set rl _ _).set rl _ _) HE.out B3) B3) ?_
    exact (((B2.setCell hu0 _).setCell hu0 _).setCell hu0 _).setCell hu0 _
end Go.Proofs.Ytkifgjgjhjhknaa
