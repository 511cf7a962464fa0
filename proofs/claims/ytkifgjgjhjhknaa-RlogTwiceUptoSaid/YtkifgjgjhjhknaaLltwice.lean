/- RlogTwice: what was joined is had, and joined once more it changes nothing; what stands at or ahead of the index is as it was. -/
import Derived.Test.YtkifgjgjhjhknaaLq
import Derived.Test.YtkifgjgjhjhknaaJp
namespace Go.Proofs.Ytkifgjgjhjhknaa
open Go.RowKit

theorem keepT {w wp w2 : World} {x : Nat} {v0 v1 v2 v3 : Value} (K : wp.cell? ⟨x, 0, none⟩ = some v0 ∧ wp.cell? ⟨x, 1, none⟩ = some v1 ∧ wp.cell? ⟨x, 2, none⟩ = some v2 ∧ wp.cell? ⟨x, 3, none⟩ = some v3 ∧ x < wp.heap.size ∧ Below w.heap.size w wp) (hb : Below wp.heap.size wp w2) :
    w2.cell? ⟨x, 0, none⟩ = some v0 ∧ w2.cell? ⟨x, 1, none⟩ = some v1 ∧ w2.cell? ⟨x, 2, none⟩ = some v2 ∧ w2.cell? ⟨x, 3, none⟩ = some v3 ∧ x < w2.heap.size ∧ Below w.heap.size w w2 := by
  obtain ⟨k0, k1, k2, k3, hx, hB⟩ := K
  exact ⟨(hb.cell (p := ⟨x, 0, none⟩) hx).trans k0, (hb.cell (p := ⟨x, 1, none⟩) hx).trans k1, (hb.cell (p := ⟨x, 2, none⟩) hx).trans k2, (hb.cell (p := ⟨x, 3, none⟩) hx).trans k3, Nat.lt_of_lt_of_le hx hb.size, hB.trans (hb.mono hB.size)⟩
theorem joinL_len {g : Lg} {p t : Nat} {E : List En} : (joinG g p t E).1.L.length ≤ g.L.length + E.length := by
  have h : ∀ q s F, (joinC g q s F).1.L.length ≤ g.L.length + F.length := fun q s F => by
    unfold joinC
    split
    · simp
    split
    · simp
    · simp only; unfold joinL; split
      · simp; omega
      · omega
  unfold joinG
  split
  · have := h g.base g.bt (E.drop (g.base - p)); rw [List.length_drop] at this; omega
  · exact h _ _ _
set_option maxRecDepth 100000 in
set_option maxHeartbeats 4000000 in
theorem law_RlogTwice (base bt n c p t m c2 : Nat) (snap : ByteArray) (a a2 : Option Addr) (L E : List En) (hn : L.length = n) (hl : n ≤ 1048576) (hc : n ≤ c) (hcm : c ≤ maxLen) (hp : p < 18446744073709551616) (hm : E.length = m) (hml : m ≤ 1048576) (hc2 : m ≤ c2) (hcm2 : c2 ≤ maxLen) (w : World) (hE : Ents w a L) (hE2 : Ents w a2 E) :
    Calls Try.prog 8 #[.agg #[.int .u64 base, .int .u64 bt, .string snap, .slice a n c, .int .u64 p, .int .u64 t, .slice a2 m c2]] w fun e w' => e = .returned (.bool true) ∧ Below w.heap.size w w' := by
  have HE := Lib.hid hE
  have HE2 := Lib.hid hE2
  have HN := Lib.hid hn
  have HM := Lib.hid hm
  obtain ⟨r, hr⟩ : ∃ r, joinG ⟨base, bt, snap, L⟩ p t E = r := ⟨_, rfl⟩
  have hbs := joinG_base (g := ⟨base, bt, snap, L⟩) (p := p) (t := t) (E := E)
  have hlen := joinL_len (g := ⟨base, bt, snap, L⟩) (p := p) (t := t) (E := E)
  have hno := fun h => joinG_no (g := ⟨base, bt, snap, L⟩) (p := p) (t := t) (E := E) h
  have htw := fun h => joinG_twice (g := ⟨base, bt, snap, L⟩) (p := p) (t := t) (E := E) h
  have hhi := fun hp h => joinG_hi (g := ⟨base, bt, snap, L⟩) (p := p) (t := t) (E := E) hp h
  rw [hr] at hbs hlen hno htw hhi
  obtain ⟨⟨b', bt', s', M⟩, f, ok⟩ := r
  simp only at hbs hlen hno htw hhi
  obtain ⟨rfl, rfl, rfl⟩ := hbs
  have hq : M.length ≤ 2097152 := by omega
  obtain ⟨q, hqq⟩ : ∃ q, M.length = q := ⟨_, rfl⟩
  rw [hqq] at hq hhi
  rw [hn] at hhi
  have HR := Lib.hid hr
  have HQ := Lib.hid hqq
  have HNO := Lib.hid hno
  have HTW := Lib.hid htw
  have HHI := Lib.hid hhi
  clear hE hE2 hn hm hr hlen hno htw hhi hqq
  by_cases hb : 1099511627776 < b'
  · have g : decide ((1099511627776 : Int) < (b' : Int)) = true := decide_eq_true (by omega)
    clear hb
    go_enter Try.func8, Try.ntmps8
    go_wp2_with fail
    have B0 : Below w.heap.size w ((w.alloc (.cells #[.int .u64 b', .int .u64 bt', .string s', .slice a n c, .int .u64 p, .int .u64 t, .slice a2 m c2] 55)).alloc (.cells #[.int .u64 b', .int .u64 bt', .string s', .slice a n c] 25)) := by go_grown
    have L0 := Lb.new (w := w.alloc (.cells #[.int .u64 b', .int .u64 bt', .string s', .slice a n c, .int .u64 p, .int .u64 t, .slice a2 m c2] 55)) (x := w.heap.size + 1) (by simp) b' bt' s' (.slice a n c) 25
    refine (shown_any _).mono ?_
    rintro e w1 ⟨rfl, hb1⟩
    obtain ⟨l0, l1, l2, l3, lz, ll⟩ := L0.later hb1
    have B1 := B0.trans (hb1.mono B0.size)
    clear hb1 L0
    go_wp2_with fail
    go_ret
    exact ⟨rfl, B1⟩
  have g : decide ((1099511627776 : Int) < (b' : Int)) = false := decide_eq_false (by omega)
  have hb' : b' < 4611686018427387904 := by omega
  have hb5 : b' ≤ 5000000000000 := by omega
  clear hb
  go_enter Try.func8, Try.ntmps8
  go_wp2_with fail
  have B0 : Below w.heap.size w ((w.alloc (.cells #[.int .u64 b', .int .u64 bt', .string s', .slice a n c, .int .u64 p, .int .u64 t, .slice a2 m c2] 55)).alloc (.cells #[.int .u64 b', .int .u64 bt', .string s', .slice a n c] 25)) := by go_grown
  have L0 := Lb.new (w := w.alloc (.cells #[.int .u64 b', .int .u64 bt', .string s', .slice a n c, .int .u64 p, .int .u64 t, .slice a2 m c2] 55)) (x := w.heap.size + 1) (by simp) b' bt' s' (.slice a n c) 25
  refine (shown_any _).mono ?_
  rintro e w1 ⟨rfl, hb1⟩
  have HL1 := Lib.hid (L0.later hb1)
  obtain ⟨l0, l1, l2, l3, lz, ll⟩ := HL1.out
  have B1 := B0.trans (hb1.mono B0.size)
  clear hb1 L0 B0
  go_wp2_with fail
  refine (pJoin_any b' bt' n c p t m c2 s' a a2 L E HN.out (by omega) hc hcm hb' HM.out (by omega) hc2 hcm2 hp _ (HE.out.later B1) (HE2.out.later B1)).mono ?_
  rintro e w2 ⟨a3, c3, rfl, hc3, hcm3, hE3, hb2⟩
  rw [HR.out] at hc3 hE3 ⊢
  simp only at hc3 hE3 ⊢
  rw [HQ.out] at hc3 ⊢
  have P2 : Below w2.heap.size w2 (w2.alloc (.cells #[.int .u64 b', .int .u64 bt', .string s', .slice a3 q c3] 25)) := (Below.refl _ _).alloc (Nat.le_refl _) _
  have HY2 := Lib.hid (Lb.new (w := w2) (x := w2.heap.size) rfl b' bt' s' (.slice a3 q c3) 25)
  have HE3 := Lib.hid (hE3.later P2)
  have q12 := hb2.trans (P2.mono hb2.size)
  have HL2 := Lib.hid (HL1.out.later q12)
  obtain ⟨m0, m1, m2, m3, mz, ml⟩ := HL2.out
  have B2 := B1.trans (q12.mono B1.size)
  clear hb2 hE3 P2 q12 l0 l1 l2 l3 lz
  cases ok
  case false =>
    have hbad := HNO.out rfl
    injection hbad with hg _
    injection hg with _ _ _ hML
    subst hML
    obtain rfl : q = n := by rw [← HQ.out, ← HN.out]
    go_wp2_with fail
    generalize (w2.alloc (.cells #[.int .u64 b', .int .u64 bt', .string s', .slice a3 q c3] 25)) = W2 at *
    refine (rSame_eq b' bt' q c3 c s' a3 a M HQ.out (by omega) _ HE3.out (HE.out.later B2)).mono ?_
    rintro e w3 ⟨rfl, hb3⟩
    have B3 := B2.trans (hb3.mono B2.size)
    clear hb3
    go_wp2_with fail
    go_ret
    exact ⟨rfl, B3⟩
  have HT2 := Lib.hid (HTW.out rfl)
  go_wp2_with fail
  generalize (w2.alloc (.cells #[.int .u64 b', .int .u64 bt', .string s', .slice a3 q c3] 25)) = W2 at *
  refine (pJoin_any b' bt' q c3 p t m c2 s' a3 a2 M E HQ.out hq hc3 hcm3 hb' HM.out (by omega) hc2 hcm2 hp _ HE3.out (HE2.out.later B2)).mono ?_
  rintro e w4 ⟨a4, c4, rfl, hc4, hcm4, hE4, hb4⟩
  rw [HT2.out] at hc4 hE4 ⊢
  simp only at hc4 hE4 ⊢
  rw [HQ.out] at hc4 ⊢
  have P4 : Below w4.heap.size w4 (w4.alloc (.cells #[.int .u64 b', .int .u64 bt', .string s', .slice a4 q c4] 25)) := (Below.refl _ _).alloc (Nat.le_refl _) _
  have HY4 := Lib.hid (Lb.new (w := w4) (x := w4.heap.size) rfl b' bt' s' (.slice a4 q c4) 25)
  have hE4' := hE4.later P4
  have q24 := hb4.trans (P4.mono hb4.size)
  have HY3 := Lib.hid (HY2.out.later q24)
  have HE3' := Lib.hid (HE3.out.later q24)
  have HL4 := Lib.hid (HL2.out.later q24)
  obtain ⟨y0, y1, y2, y3, yz, yl⟩ := HY3.out
  obtain ⟨s0, s1, s2, s3, sz, sl⟩ := HY4.out
  have B4 := B2.trans (q24.mono B2.size)
  clear hb4 hE4 P4 q24 m0 m1 m2 m3 mz
  go_wp2_with fail
  generalize (w4.alloc (.cells #[.int .u64 b', .int .u64 bt', .string s', .slice a4 q c4] 25)) = W4 at *
  refine (rSame_eq b' bt' q c3 c4 s' a3 a4 M HQ.out (by omega) _ HE3'.out hE4').mono ?_
  rintro e w5 ⟨rfl, hb5'⟩
  have HY5 := Lib.hid (HY3.out.later hb5')
  have HE5 := Lib.hid (HE3'.out.later hb5')
  have HL5 := Lib.hid (HL4.out.later hb5')
  have B5 := B4.trans (hb5'.mono B4.size)
  obtain ⟨l0, l1, l2, l3, lz, ll⟩ := HL5.out
  clear hb5' hE4' y0 y1 y2 y3 yz s0 s1 s2 s3 sz
  by_cases hlow : p < b'
  · have g1 : (p : Int) < (b' : Int) := by omega
    go_wp2_with fail
    go_ret
    exact ⟨rfl, B5⟩
  have g1 : ¬ (p : Int) < (b' : Int) := by omega
  have glow : decide (p < b') = false := decide_eq_false (by omega)
  obtain ⟨h1, h2, h3, h4⟩ := HHI.out (by omega) (by first | rfl | trivial)
  obtain ⟨k, hk⟩ : ∃ k, p - b' = k := ⟨_, rfl⟩
  rw [hk] at h3
  have e1 : IntKind.u64.wrap ((p : Int) - (b' : Int)) = (k : Int) := by rw [IntWalk.u64_in _ (by omega)]; omega
  have e2 : (p : Int) - (b' : Int) = (k : Int) := by omega
  have e3 : IntKind.u64.wrap (k : Int) = (k : Int) := IntWalk.u64_in _ (by omega)
  have e4 : IntKind.i64.wrap (k : Int) = (k : Int) := IntWalk.i64_in _ (by omega)
  have i0 : (0 : Int) ≤ (k : Int) := by omega
  have i1 : (k : Int) ≤ (n : Int) := by omega
  have i2 : (k : Int) ≤ (q : Int) := by omega
  have i3 : (k : Int) ≤ (c : Int) := by omega
  have i4 : (k : Int) ≤ (c3 : Int) := by omega
  have hk5 : p ≤ 6000000000000 := by omega
  have hkl : (M.take k).length = k := by rw [List.length_take, HQ.out]; omega
  have HKL := Lib.hid hkl
  have H3 := Lib.hid h3
  have H4 := Lib.hid h4
  obtain ⟨y0, y1, y2, y3, yz, yl⟩ := HY5.out
  clear h1 h2 h3 h4 hk hkl hlow
  go_wp2_with fail
  have K1 : w5.drew.cell? ⟨w.heap.size + 1, 3, none⟩ = some (.slice a n c) ∧ w5.drew.cell? ⟨w2.heap.size, 3, none⟩ = some (.slice a3 q c3) ∧ Below w5.heap.size w5 w5.drew := ⟨l3, y3, (Below.refl _ _).drew⟩
  have hy := HY5.out.lt
  go_upto_region 19 with fail
  go_region_held3 (fun w' => w'.cell? ⟨w.heap.size + 1, 3, none⟩ = some (.slice a n c) ∧ w'.cell? ⟨w2.heap.size, 3, none⟩ = some (.slice a3 q c3) ∧ Below w5.heap.size w5 w')
    (first | (with_reducible assumption) | go_keep)
    ((go_at_call 20; (with_reducible refine (rEntries_eq a3 a k c3 c (M.take k) HKL.out (by omega) _ ((HE5.out.take k).later (Below.refl _ _).drew) ?_).mono ?_); (· (rw [H3.out]; exact ((HE.out.later (B5.drew)).take k))); rintro e w6 ⟨rfl, hb6⟩; have hb6' : Below w5.heap.size w5 w6 := (Below.refl _ _).drew.trans hb6; have K2 : w6.cell? ⟨w.heap.size + 1, 3, none⟩ = some (.slice a n c) ∧ w6.cell? ⟨w2.heap.size, 3, none⟩ = some (.slice a3 q c3) ∧ Below w5.heap.size w5 w6 := ⟨(hb6'.cell (p := ⟨w.heap.size + 1, 3, none⟩) ll).trans l3, (hb6'.cell (p := ⟨w2.heap.size, 3, none⟩) hy).trans y3, hb6'⟩))
  all_goals
    have hb6'' := K2.2.2
    have HY6 := Lib.hid (HY5.out.later hb6'')
    have HE6 := Lib.hid (HE5.out.later hb6'')
    have HL6 := Lib.hid (HL5.out.later hb6'')
    have B6 := B5.trans (hb6''.mono B5.size)
    clear K1 K2 hb6'' l0 l1 l2 l3 lz y0 y1 y2 y3 yz
    go_wp2_with fail
    go_loopw [18] (fun j wr => ∃ k2 : Nat, k2 ≤ m ∧ j = .int .i64 k2 ∧ Below w6.heap.size w6 wr) (fun j _ => m - (intOf j).toNat)
    case atStart => exact ⟨0, Nat.zero_le _, rfl, Below.refl _ _⟩
    case round =>
      obtain ⟨k2, hk2, rfl, B⟩ := hrel
      have BB := B6.trans (B.mono B6.size)
      obtain ⟨y0, y1, y2, y3, yz, yl⟩ := HY6.out.later B
      obtain ⟨l0, l1, l2, l3, lz, ll2⟩ := HL6.out.later B
      by_cases hlt : k2 < m
      · have hkl : k2 < E.length := by have := HM.out; omega
        obtain ⟨x, hx⟩ : ∃ x, E[k2]? = some x := ⟨_, List.getElem?_eq_getElem hkl⟩
        obtain ⟨b, off, rfl, hbb, p0, p1⟩ := (HE2.out.later BB) k2 x hx
        obtain ⟨pk, hpk⟩ : ∃ pk, p + 1 + k2 = pk := ⟨_, rfl⟩
        have e6 : (p : Int) + 1 + (k2 : Int) = (pk : Int) := by omega
        have HT := Lib.hid (show tAt b' bt' M pk = (x.t, true) by rw [← hpk]; exact H4.out k2 x hx)
        have j0 : (0 : Int) ≤ (k2 : Int) := by omega
        have j1 : (k2 : Int) < (m : Int) := by omega
        have j2 : pk < 18446744073709551616 := by omega
        have HX := Lib.hid hx
        have HP := Lib.hid hpk
        clear hx hkl hpk
        go_wp2_with fail
        refine (pTermAt_any b' bt' q c3 pk s' a3 M HQ.out (by omega) hb' j2 _ (HE6.out.later B)).mono ?_
        rintro e w7 ⟨rfl, hb7⟩
        rw [HT.out]
        have P0 := (hb7.cell (p := ⟨b, off + k2 * 2, none⟩) hbb).trans p0
        have B7 := B.trans (hb7.mono B.size)
        clear hb7 p0 p1 y0 y1 y2 y3 yz l0 l1 l2 l3 lz
        go_wp2_with fail
        go_roundw
        case rel => exact ⟨k2 + 1, by omega, by go_num, B7⟩
        case measure => simp [intOf]; omega
      · go_wp2_with fail
        go_ret
        exact ⟨by simp, BB⟩
end Go.Proofs.Ytkifgjgjhjhknaa
