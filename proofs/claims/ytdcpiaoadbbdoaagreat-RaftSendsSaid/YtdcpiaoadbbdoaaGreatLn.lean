/- Join. -/
import Derived.Test.YtdcpiaoadbbdoaaGreatBulk
import Derived.Test.YtdcpiaoadbbdoaaGreatLi
import Derived.Deep.CutBlock
set_option maxRecDepth 100000
set_option maxHeartbeats 16000000
namespace Go.Proofs.YtdcpiaoadbbdoaaGreat
open Go.RowKit

def joinL (g : Lg) (prev : Nat) (E : List En) : List En := if knF g.base g.bt g.L prev E < E.length then g.L.take (prev + knF g.base g.bt g.L prev E - g.base) ++ E.drop (knF g.base g.bt g.L prev E) else g.L
def joinC (g : Lg) (prev term : Nat) (E : List En) : Lg × Nat × Bool :=
 if hasB g.base g.bt g.L prev term = false then (g, 0, false) else
 if 1024 < (joinL g prev E).length ∨ 1099511627776 < g.base + (joinL g prev E).length then (g, 0, false) else
 ({ g with L := joinL g prev E }, if knF g.base g.bt g.L prev E < E.length then prev + knF g.base g.bt g.L prev E + 1 else 0, true)
def joinG (g : Lg) (prev term : Nat) (E : List En) : Lg × Nat × Bool := if prev < g.base then joinC g g.base g.bt (E.drop (g.base - prev)) else joinC g prev term E
theorem hasB_top {base bt i term : Nat} {L : List En} (h : hasB base bt L i term = true) : i ≤ base + L.length := by
 unfold hasB tAt at h
 by_cases h0 : i = base
 · omega
 rw [if_neg h0] at h
 by_cases h1 : i < base
 · omega
 rw [if_neg h1] at h
 by_cases h2 : i - base - 1 < L.length
 · omega
 · rw [List.getElem?_eq_none (by omega)] at h; simp at h
theorem knF_top {base bt p t : Nat} {L E : List En} (h : hasB base bt L p t = true) : p + knF base bt L p E ≤ base + L.length := by
 rcases Nat.eq_zero_or_pos (knF base bt L p E) with h0 | h0
 · have := hasB_top h; omega
 · have hle := knF_le base bt L E p
   obtain ⟨x, hx⟩ : ∃ x, E[knF base bt L p E - 1]? = some x := ⟨_, List.getElem?_eq_getElem (by omega)⟩
   have := hasB_top (knF_has base bt L E p _ x (by omega) hx)
   omega
def JoT (w : World) (a0 : Option Addr) (L0 : List En) (r : Lg × Nat × Bool) (e : Ending) (w' : World) : Prop := ∃ a c, e = .returned (.tuple #[.agg #[.int .u64 r.1.base, .int .u64 r.1.bt, .string r.1.snap, .slice a r.1.L.length c], .int .u64 r.2.1, .bool r.2.2]) ∧ r.1.L.length ≤ c ∧ c ≤ maxLen ∧ Ents w' a r.1.L ∧ Pl a0 L0 w' a r.1.L ∧ Below w.heap.size w w'
theorem pJoin_any (base bt n c prev term m c2 : Nat) (snap : ByteArray) (a a2 : Option Addr) (L E : List En) (hn : L.length = n) (hl : n + m ≤ 9000000000000) (hc : n ≤ c) (hcm : c ≤ maxLen) (hb : base < 4611686018427387904) (hm : E.length = m) (hc2 : m ≤ c2) (hcm2 : c2 ≤ maxLen) (hp : prev < 18446744073709551616) (w : World) (hE : Ents w a L) (hE2 : Ents w a2 E) :
 Calls Tryz.prog 102 #[.agg #[.int .u64 base, .int .u64 bt, .string snap, .slice a n c], .int .u64 prev, .int .u64 term, .slice a2 m c2] w (JoT w a L (joinG ⟨base, bt, snap, L⟩ prev term E)) := by
 have B0 : Below w.heap.size w ((w.alloc (.cells #[.int .u64 base, .int .u64 bt, .string snap, .slice a n c] 28)).alloc (.cells #[.int .u64 0, .int .u64 0, .string ⟨#[]⟩, .slice none 0 0] 28)) := by go_grown
 have L0 := (Lb.new (w := w) rfl base bt snap (.slice a n c) 28).past (.cells #[.int .u64 0, .int .u64 0, .string ⟨#[]⟩, .slice none 0 0] 28)
 have R0 := Lb.zero (w := (w.alloc (.cells #[.int .u64 base, .int .u64 bt, .string snap, .slice a n c] 28))) (x := w.heap.size + 1) (by simp) 28
 have HE := hI_ hE
 have HE2 := hI_ hE2
 have HN := hI_ hn
 have HM := hI_ hm
 have hu0 : w.heap.size ≤ w.heap.size + 1 := by omega
 have hz : ((w.alloc (.cells #[.int .u64 base, .int .u64 bt, .string snap, .slice a n c] 28)).alloc (.cells #[.int .u64 0, .int .u64 0, .string ⟨#[]⟩, .slice none 0 0] 28)).heap.size = w.heap.size + 1 + 1 := by simp
 have hno : joinG ⟨base, bt, snap, L⟩ prev term E = (⟨base, bt, snap, L⟩, 0, false) → ∀ w', Below w.heap.size w w' → JoT w a L (joinG ⟨base, bt, snap, L⟩ prev term E) (.returned (.tuple #[.agg #[.int .u64 base, .int .u64 bt, .string snap, .slice a n c], .int .u64 0, .bool false])) w' := fun h w' hB => by
  rw [h]; exact ⟨a, c, by simp only; rw [hn]; rfl, by simp only; rw [hn]; exact hc, hcm, hE.later hB, Pl.same _ _ _, hB⟩
 have hyes : ∀ (M : List En) (first : Nat), joinG ⟨base, bt, snap, L⟩ prev term E = (⟨base, bt, snap, M⟩, first, true) → ∀ w' a' m' c', M.length = m' → m' ≤ c' → c' ≤ maxLen → Ents w' a' M → Pl a L w' a' M → Below w.heap.size w w' → JoT w a L (joinG ⟨base, bt, snap, L⟩ prev term E) (.returned (.tuple #[.agg #[.int .u64 base, .int .u64 bt, .string snap, .slice a' m' c'], .int .u64 first, .bool true])) w' := fun M first h w' a' m' c' h1 h2 h3 h4 h5 hB => by
  rw [h]; exact ⟨a', c', by simp only; rw [h1], by simp only; rw [h1]; exact h2, h3, h4, h5, hB⟩
 have HNO := hI_ hno
 have HYES := hI_ hyes
 clear hno hyes
 unfold maxLen at hcm hcm2
 clear hE hE2 hn hm
 go_enter Tryz.func102, Tryz.ntmps102
 go_upto_if 19 with (fail)
 generalize hW : ((w.alloc (.cells #[.int .u64 base, .int .u64 bt, .string snap, .slice a n c] 28)).alloc (.cells #[.int .u64 0, .int .u64 0, .string ⟨#[]⟩, .slice none 0 0] 28)) = W at *
 clear hW
 go_cut [1, 2, 3] (fun p t v wx => ∃ (p' t' : Nat) (a3 : Option Addr) (m3 c3 : Nat) (E' : List En), p = .int .u64 p' ∧ t = .int .u64 t' ∧ v = .slice a3 m3 c3 ∧ E'.length = m3 ∧ m3 ≤ m ∧ m3 ≤ c3 ∧ c3 ≤ 9223372036854775807 ∧ joinG ⟨base, bt, snap, L⟩ prev term E = joinC ⟨base, bt, snap, L⟩ p' t' E' ∧ base ≤ p' ∧ p' < 18446744073709551616 ∧ Ents w a3 E' ∧ Below W.heap.size W wx)
 case first =>
  by_cases h1 : prev < base
  case neg =>
   have g1 : ¬ (prev : Int) < (base : Int) := by omega
   have HJ2 := hI_ (show joinG ⟨base, bt, snap, L⟩ prev term E = joinC ⟨base, bt, snap, L⟩ prev term E by unfold joinG; rw [if_neg h1])
   clear h1
   go_wp2_with fail
   go_meet
   exact ⟨prev, term, a2, m, c2, E, rfl, rfl, rfl, HM.out, Nat.le_refl _, hc2, hcm2, HJ2.out, by omega, hp, HE2.out, Below.refl _ _⟩
  case pos =>
   have g1 : (prev : Int) < (base : Int) := by omega
   obtain ⟨l0, l1, l2, l3, lz, ll⟩ := L0
   obtain ⟨d, hd⟩ : ∃ d, base - prev = d := ⟨_, rfl⟩
   have e1 : IntKind.u64.wrap ((base : Int) - (prev : Int)) = (d : Int) := by rw [IntWalk.u64_in _ (by omega)]; omega
   have e2 : (base : Int) - (prev : Int) = (d : Int) := by omega
   have HJ2 := hI_ (show joinG ⟨base, bt, snap, L⟩ prev term E = joinC ⟨base, bt, snap, L⟩ base bt (E.drop (min d m)) by
    unfold joinG; rw [if_pos h1]; simp only; rw [hd]
    by_cases h : d ≤ m
    · rw [Nat.min_eq_left h]
    · rw [Nat.min_eq_right (by omega), List.drop_eq_nil_of_le (by have := HM.out; omega), List.drop_eq_nil_of_le (by have := HM.out; omega)])
   clear h1 hd
   by_cases hdm : d < m
   · have g2 : (d : Int) < (m : Int) := by omega
     obtain ⟨b, off, rfl, _⟩ := HE2.out.addr (by have := HM.out; omega)
     have HJ3 := hI_ (show min d m = d by omega)
     have i0 : (0 : Int) ≤ (d : Int) := by omega
     clear hdm
     go_wp2_with fail
     go_quiet (fail)
     go_wp2_with fail
     go_meet
     have HEE := HE2.out.drop d (fun _ => rfl)
     rw [HJ3.out] at HJ2
     refine ⟨base, bt, some ⟨b, off + d * 2, none⟩, m - d, c2 - d, E.drop d, rfl, rfl, ?_, by rw [List.length_drop, HM.out], by omega, by omega, by omega, HJ2.out, Nat.le_refl _, by omega, HEE, below_drewN (Below.refl _ _) _⟩
     simp
   · have g2 : ¬ (d : Int) < (m : Int) := by omega
     have HJ3 := hI_ (show min d m = m by omega)
     have i0 : (0 : Int) ≤ (m : Int) := by omega
     clear hdm
     rw [HJ3.out, List.drop_eq_nil_of_le (by rw [HM.out]; exact Nat.le_refl _)] at HJ2
     by_cases hcm3 : c2 = m
     · subst hcm3
       go_wp2_with fail
       all_goals
        go_quiet (fail)
        go_wp2_with fail
        go_meet
        refine ⟨base, bt, _, _, _, [], rfl, rfl, rfl, ?_, ?_, ?_, ?_, HJ2.out, Nat.le_refl _, by omega, Ents.nil _ _, below_drewN (Below.refl _ _) _⟩
        all_goals first | (simp; done) | (simp; omega) | omega
     · go_wp2_with fail
       all_goals
        go_quiet (fail)
        go_wp2_with fail
        go_meet
        refine ⟨base, bt, _, _, _, [], rfl, rfl, rfl, ?_, ?_, ?_, ?_, HJ2.out, Nat.le_refl _, by omega, Ents.nil _ _, below_drewN (Below.refl _ _) _⟩
        all_goals first | (simp; done) | (simp; omega) | omega
 case rest =>
  obtain ⟨p', t', a3, m3, c3, E', rfl, rfl, rfl, hm3, hmm, hmc, hcm3, hJ, hbp, hp2, hE3, B⟩ := hcut
  have L1 := L0.later B
  have R1 := R0.later B
  have B1 := B0.trans (B.mono B0.size)
  have hE1 := HE.out.later B1
  obtain ⟨bb, hbb⟩ : ∃ bb, hasB base bt L p' t' = bb := ⟨_, rfl⟩
  have HBB := hI_ hbb
  have HJ := hI_ hJ
  have HM3 := hI_ hm3
  have HE3 := hI_ hE3
  clear hbb hJ hm3 hE3 B L0 R0 B0
  have HL1 := hI_ L1
  have HR1 := hI_ R1
  obtain ⟨l0, l1, l2, l3, lz, ll⟩ := L1
  go_wp2_with fail
  refine (pHas_any base bt n c p' t' snap a L HN.out (by omega) hb hp2 _ hE1).mono ?_
  rintro e w1 ⟨rfl, hb1⟩
  rw [HBB.out]
  obtain ⟨x0, x1, x2, x3, xz, xl⟩ := HL1.out.later hb1
  obtain ⟨r0, r1, r2, r3, rz, rl⟩ := HR1.out.later hb1
  have HL2 := hI_ (HL1.out.later hb1)
  have HR2 := hI_ (HR1.out.later hb1)
  have B2 := B1.trans (hb1.mono B1.size)
  clear l0 l1 l2 l3 lz hb1 B1 hE1 HL1 HR1
  cases bb
  · have HN2 := hI_ (HNO.out (by rw [HJ.out]; unfold joinC; rw [if_pos HBB.out]))
    go_wp2_with fail
    refine bodyPost_ret (v := .tuple #[.agg #[.int .u64 base, .int .u64 bt, .string snap, .slice a n c], .int .u64 0, .bool false]) (by simp [results, Tryz.results102, go_sem, r0, r1, r2, r3]) rfl ?_
    exact HN2.out _ ((((B2.setCell hu0 _).setCell hu0 _).setCell hu0 _).setCell hu0 _)
  obtain ⟨k, hk⟩ : ∃ k, knF base bt L p' E' = k := ⟨_, rfl⟩
  have hkm : k ≤ m3 := by rw [← hk, ← HM3.out]; exact knF_le _ _ _ _ _
  have htop : p' + k ≤ base + n := by rw [← hk, ← HN.out]; exact knF_top HBB.out
  have HK := hI_ hk
  have hpp : p' ≤ 9223372036854775807 := by omega
  clear hk
  go_wp2_with fail
  have B3 := B2.alloc B2.size (.cells #[.int .u64 base, .int .u64 bt, .string snap, .slice a n c] 28)
  have HY := hI_ (Lb.new (w := w1) (x := w1.heap.size) rfl base bt snap (.slice a n c) 28)
  have HL3 := hI_ (HL2.out.past (.cells #[.int .u64 base, .int .u64 bt, .string snap, .slice a n c] 28))
  have HR3 := hI_ (HR2.out.past (.cells #[.int .u64 base, .int .u64 bt, .string snap, .slice a n c] 28))
  have hw1 : w1.heap.size < (w1.alloc (.cells #[.int .u64 base, .int .u64 bt, .string snap, .slice a n c] 28)).heap.size := by simp
  refine (pKnown_any base bt n c p' m3 c3 snap a a3 L E' HN.out (by omega) hb HM3.out (by omega) hpp _ (HE.out.later B3) (HE3.out.later B3)).mono ?_
  rintro e w2 ⟨rfl, hb2⟩
  rw [HK.out]
  have HY2 := hI_ (HY.out.later hb2)
  have HL4 := hI_ (HL3.out.later hb2)
  have HR4 := hI_ (HR3.out.later hb2)
  have B4 := B3.trans (hb2.mono B3.size)
  have hw2 : w1.heap.size < w2.heap.size := Nat.lt_of_lt_of_le hw1 hb2.size
  have rl0 : w.heap.size + 1 < w2.heap.size := HR4.out.lt
  clear hb2 x0 x1 x2 x3 xz r0 r1 r2 r3 rz HY HL3 HR3 HL2 HR2 R1
  go_upto_if 48 with (fail)
  go_cut [12] (fun f wx => ∃ (M : List En) (a' : Option Addr) (m' c' first : Nat), f = .int .u64 first ∧ M.length = m' ∧ m' ≤ c' ∧ c' ≤ maxLen ∧ m' ≤ 9000000000000 ∧ joinL ⟨base, bt, snap, L⟩ p' E' = M ∧ (if k < m3 then p' + k + 1 else 0) = first ∧ Fr w2 a L wx a' M ∧ Lb wx w1.heap.size base bt snap (.slice a' m' c') ∧ Lb wx w.heap.size base bt snap (.slice a n c) ∧ Lb wx (w.heap.size + 1) 0 0 ⟨#[]⟩ (.slice none 0 0) ∧ Below w.heap.size w wx)
  case first =>
   by_cases hkm2 : k < m3
   case neg =>
    have hJL : joinL ⟨base, bt, snap, L⟩ p' E' = L := by unfold joinL; rw [if_neg (by simp only; rw [HK.out, HM3.out]; exact hkm2)]
    have HJL := hI_ hJL
    have g1 : ¬ (k : Int) < (m3 : Int) := by omega
    have HF := hI_ (show (if k < m3 then p' + k + 1 else 0) = 0 from if_neg hkm2)
    clear hJL hkm2
    go_wp2_with fail
    go_meet
    exact ⟨L, a, n, c, 0, rfl, HN.out, hc, by unfold maxLen; exact hcm, by omega, HJL.out, HF.out, Fr.same _ _ _ _, HY2.out, HL4.out, HR4.out, B4⟩
   case pos =>
    obtain ⟨kk, hkk⟩ : ∃ kk, p' + k - base = kk := ⟨_, rfl⟩
    obtain ⟨i, hi⟩ : ∃ i, p' + k + 1 = i := ⟨_, rfl⟩
    have hik : i = base + kk + 1 := by omega
    have hkn : kk ≤ n := by omega
    have hJL : joinL ⟨base, bt, snap, L⟩ p' E' = L.take kk ++ E'.drop k := by unfold joinL; rw [if_pos (by simp only; rw [HK.out, HM3.out]; exact hkm2)]; simp only [HK.out, hkk]
    have HJL := hI_ hJL
    have g1 : (k : Int) < (m3 : Int) := by omega
    have HF := hI_ (show (if k < m3 then p' + k + 1 else 0) = i by rw [if_pos hkm2, hi])
    obtain ⟨b3, o3, rfl, _⟩ := HE3.out.addr (by have := HM3.out; omega)
    have HEE := hI_ (HE3.out.drop k (off' := o3 + k * 2) (fun _ => rfl))
    have HML := hI_ (show (E'.drop k).length = m3 - k by rw [List.length_drop, HM3.out])
    have HLK := hI_ (show (L.take kk).length = kk by rw [List.length_take, HN.out]; omega)
    have e1 : (p' : Int) + (k : Int) + 1 = (i : Int) := by omega
    have e2 : (p' : Int) + (k : Int) ≤ 18446744073709551615 := by omega
    have e4 : (i : Int) ≤ 18446744073709551615 := by omega
    have i0 : (0 : Int) ≤ (k : Int) := by omega
    have i1 : (k : Int) ≤ (m3 : Int) := by omega
    have i2 : (k : Int) ≤ (c3 : Int) := by omega
    have j2 : ¬ c3 = k := by omega
    have j3 : 0 < m3 - k := by omega
    have j4 : ((kk + (m3 - k)) + (kk + (m3 - k)) / 4 + 192) * 24 ≤ 281474976710656 := by omega
    have hn2 : n ≤ 140737488351232 := by omega
    have hcmL : c ≤ maxLen := by unfold maxLen; exact hcm
    obtain ⟨l0, l1, l2, l3, lz, ll⟩ := HL4.out
    obtain ⟨y0, y1, y2, y3, yz, yl⟩ := HY2.out
    have HIK := hI_ hik
    clear hJL hkm2 hkk hi hik
    go_wp2_with fail
    go_region_law (first
     | (refine step_appE (by rfl) _ _ _ (by rfl) _ _ (by rfl) (by rfl) _ (app_full _ _ a kk (L.take kk) HLK.out ((HE.out.take kk).later hb7) (some ⟨b3, o3 + k * 2, none⟩) (m3 - k) (c3 - k) (E'.drop k) HML.out (HEE.out.later hb7) j3 j4) ?_; intro v' w8 hp; obtain ⟨g, cap, hv, hg, hcc, hcm4, hE8, hty8, hb8⟩ := hp; obtain ⟨m', hm'⟩ : ∃ m', (L.take kk ++ E'.drop k).length = m' := ⟨_, rfl⟩; rw [hm'] at hv hcc; subst hv; have HM' := hI_ hm'; clear hm'; have hb9 := hb7.trans (hb8.mono hb7.size); have hb10 : Below w2.heap.size w2 w8 := hbx.trans (hb8.mono hbx.size); obtain ⟨s0, s1, s2, s3, sz, sl⟩ := HY2.out.later hb10)
     | (go_simp; go_at_call 134; (with_reducible refine (pAhead_any base bt n c i kk snap a L HN.out hn2 hc hcmL hb HIK.out hkn _).mono ?_); rintro e w7 ⟨rfl, hbx⟩; have hbx : Below w2.heap.size w2 w7 := (Below.refl _ _).drew.trans hbx; have hb7 : Below w.heap.size w w7 := B4.trans (hbx.mono B4.size)))
    all_goals
     go_wp2_with fail
     go_meet
     refine ⟨L.take kk ++ E'.drop k, some ⟨g, 0, none⟩, m', cap, i, rfl, HM'.out, hcc, hcm4, ?_, HJL.out, HF.out, ?_, ?_, ?_, ?_, ?_⟩
     · have h := HM'.out; rw [List.length_append, HLK.out, HML.out] at h; omega
     · refine Fr.set (.inr ⟨hE8, fun q e => ?_⟩) ?_ _ _
       · cases e; have h1 := hbx.size; have h2 : w7.heap.size ≤ g := by simpa using hg
         exact ⟨Nat.le_trans h1 h2, hty8⟩
       · exact hw2
     · exact (HY2.out.later hb10).put3 _
     · exact (HL4.out.later hb10).far (by omega) _ _
     · exact (HR4.out.later hb10).far (by omega) _ _
     · exact hb9.setCell (by have := B2.size; omega) _
  case rest =>
   obtain ⟨M, a', m', c', first, rfl, hm', hmc', hcm', hml', hjl, hfi, hfr, hYb, hLb, hRb, B5⟩ := hcut
   have hE5 := hfr.out HE.out B5
   obtain ⟨y0, y1, y2, y3, yz, yl⟩ := hYb
   obtain ⟨l0, l1, l2, l3, lz, ll⟩ := hLb
   obtain ⟨r0, r1, r2, r3, rz, rl⟩ := hRb
   have HRB := hI_ (Lb.mk r0 r1 r2 r3 rz rl)
   have HYB := hI_ (Lb.mk y0 y1 y2 y3 yz yl)
   have HLB := hI_ (Lb.mk l0 l1 l2 l3 lz ll)
   have HFR := hI_ hfr
   have HM' := hI_ hm'
   have hjc : joinC ⟨base, bt, snap, L⟩ p' t' E' = (if 1024 < m' ∨ 1099511627776 < base + m' then (⟨base, bt, snap, L⟩, 0, false) else (⟨base, bt, snap, M⟩, first, true)) := by
    unfold joinC
    rw [if_neg (by simp only; rw [HBB.out]; simp)]
    simp only [hjl, hm', HK.out, HM3.out, hfi]
   have HJC := hI_ hjc
   obtain ⟨q, hq⟩ : ∃ q, base + m' = q := ⟨_, rfl⟩
   have HQ := hI_ hq
   clear hm' hjl hfi hfr hjc hq
   go_wp2_with fail
   refine (pLast_any base bt m' c' snap a' M HM'.out (by omega) hb _ hE5).mono ?_
   rintro e w6 ⟨rfl, hb6⟩
   rw [HQ.out]
   have B6 := B5.trans (hb6.mono B5.size)
   obtain ⟨y0', y1', y2', y3', yz', yl'⟩ := HYB.out.later hb6
   obtain ⟨l0', l1', l2', l3', lz', ll'⟩ := HLB.out.later hb6
   obtain ⟨r0', r1', r2', r3', rz', rl'⟩ := HRB.out.later hb6
   clear y0 y1 y2 y3 yz l0 l1 l2 l3 lz r0 r1 r2 r3 rz hE5
   by_cases h1 : 1024 < m'
   · have g1 : (1024 : Int) < (m' : Int) := by omega
     have HN2 := hI_ (HNO.out (by rw [HJ.out, HJC.out, if_pos (.inl h1)]))
     go_wp2_with fail
     refine bodyPost_ret (v := .tuple #[.agg #[.int .u64 base, .int .u64 bt, .string snap, .slice a n c], .int .u64 0, .bool false]) (by simp [results, Tryz.results102, go_sem, r0', r1', r2', r3']) rfl ?_
     exact HN2.out _ ((((B6.setCell hu0 _).setCell hu0 _).setCell hu0 _).setCell hu0 _)
   have g1 : ¬ (1024 : Int) < (m' : Int) := by omega
   by_cases h2 : 1099511627776 < q
   · have g2 : decide ((1099511627776 : Int) < (q : Int)) = true := decide_eq_true (by omega)
     have HN2 := hI_ (HNO.out (by rw [HJ.out, HJC.out, if_pos (.inr (by rw [HQ.out]; exact h2))]))
     clear h1 h2
     go_wp2_with fail
     refine bodyPost_ret (v := .tuple #[.agg #[.int .u64 base, .int .u64 bt, .string snap, .slice a n c], .int .u64 0, .bool false]) (by simp [results, Tryz.results102, go_sem, r0', r1', r2', r3']) rfl ?_
     exact HN2.out _ ((((B6.setCell hu0 _).setCell hu0 _).setCell hu0 _).setCell hu0 _)
   · have g2 : decide ((1099511627776 : Int) < (q : Int)) = false := decide_eq_false (by omega)
     have HN2 := hI_ (HYES.out M first (by rw [HJ.out, HJC.out, if_neg (by rw [HQ.out]; omega)]))
     clear h1 h2
     go_wp2_with fail
     refine bodyPost_ret (v := .tuple #[.agg #[.int .u64 base, .int .u64 bt, .string snap, .slice a' m' c'], .int .u64 first, .bool true]) (by simp [results, Tryz.results102, go_sem, r0', r1', r2', r3']) rfl ?_
     refine (fun B7 => HN2.out _ _ _ _ HM'.out hmc' hcm' (Fr.out ((((HFR.out.late hb6).set rl0 _ _).set rl0 _ _).set rl0 _ _ |>.set rl0 _ _) HE.out B7) (Fr.pl ((((HFR.out.late hb6).set rl0 _ _).set rl0 _ _).set rl0 _ _ |>.set rl0 _ _)) B7) ?_
     exact (((B6.setCell hu0 _).setCell hu0 _).setCell hu0 _).setCell hu0 _
end Go.Proofs.YtdcpiaoadbbdoaaGreat
