/- BallotOnce: in each term a seat grants to one node at most. -/
import Derived.Test.YtmcmanjniloeaaaWd
import Derived.Test.YtmcmanjniloeaaaRg
import Derived.Deep.DeepCutAuto
import Derived.Deep.CutBlock
namespace Go.Proofs.Ytmcmanjniloeaaa
open Go.RowKit

theorem ansS_term (s : Se) (a : Ak) : s.t ≤ (ansS s a).1.t := by
  unfold ansS
  by_cases hp : a.p = true
  · simp [hp]
  simp only [hp, Bool.false_eq_true, ↓reduceIte]
  by_cases h1 : a.t < s.t ∨ (s.t < a.t ∧ s.h = true)
  · simp [h1]
  · simp only [h1, ↓reduceIte]
    by_cases h2 : s.t < a.t
    · simp only [h2, ↓reduceIte]; split <;> simp <;> omega
    · simp only [h2, ↓reduceIte]; split <;> simp
theorem ansS_pre (s : Se) (a : Ak) (h : a.p = true) : (ansS s a).1 = s := by unfold ansS; simp [h]
/-- What a seat is behind an ask that isn't Pre. -/
theorem ansS_ok (s : Se) (a : Ak) (hp : a.p = false) (h : (ansS s a).2 = true) : (ansS s a).1.t = a.t ∧ (ansS s a).1.v = a.fr ∧ a.fr ≠ 0 ∧ ((ansS s a).1.t = s.t → s.v = 0 ∨ s.v = a.fr) := by
  revert h
  unfold ansS
  simp only [hp, Bool.false_eq_true, ↓reduceIte]
  by_cases h1 : a.t < s.t ∨ (s.t < a.t ∧ s.h = true)
  · simp [h1]
  · simp only [h1, ↓reduceIte]
    by_cases h2 : s.t < a.t
    · simp only [h2, ↓reduceIte]
      split
      · rename_i h3
        simp only [Bool.and_eq_true, openB] at h3
        simp only [forall_const, true_and]
        exact ⟨by simpa using h3.1.1, fun e => by omega⟩
      · simp
    · simp only [h2, ↓reduceIte]
      split
      · rename_i h3
        simp only [Bool.and_eq_true, openB, Bool.or_eq_true, decide_eq_true_eq] at h3
        simp only [forall_const]
        exact ⟨by omega, trivial, by simpa using h3.1.1, h3.1.2⟩
      · simp
theorem ansS_no (s : Se) (a : Ak) (h : (ansS s a).2 = false) : (ansS s a).1.v = if s.t < (ansS s a).1.t then 0 else s.v := by
  revert h
  unfold ansS
  by_cases hp : a.p = true
  · simp [hp]
  simp only [hp, Bool.false_eq_true, ↓reduceIte]
  by_cases h1 : a.t < s.t ∨ (s.t < a.t ∧ s.h = true)
  · simp [h1]
  · simp only [h1, ↓reduceIte]
    by_cases h2 : s.t < a.t
    · simp only [h2, ↓reduceIte]; split <;> simp
    · simp only [h2, ↓reduceIte]; split <;> simp
theorem fin5 {w wx : World} {t v lt li : Nat} {h : Bool} (hS : B5 wx w.heap.size t v lt li h) (hB : Below w.heap.size w wx) (rt rv rlt rli : Nat) (rh : Bool) :
    ∀ u, u = set5 wx w.heap.size (.int .u64 rt) (.int .u64 rv) (.int .u64 rlt) (.int .u64 rli) (.bool rh) → B5 u w.heap.size rt rv rlt rli rh ∧ Below w.heap.size w u := fun u hu => by
  rw [hu]; exact ⟨hS.put rt rv rlt rli rh, below_set5 hB (Nat.le_refl _)⟩
set_option maxRecDepth 100000 in
set_option maxHeartbeats 8000000 in
theorem law_BallotOnce (t v lt li : Nat) (h : Bool) (n c : Nat) (a : Option Addr) (L : List Ak) (hn : L.length = n) (hl : n * 40 ≤ 140737488351232) (w : World) (hA : Aks w a L) :
    Calls Try.prog 5 #[v5 t v lt li h, .slice a n c] w fun e w' => e = .returned (.bool true) ∧ Below w.heap.size w w' := by
  have HB0 := Lib.hid (show Below w.heap.size w (w.alloc (.cells #[.int .u64 t, .int .u64 v, .int .u64 lt, .int .u64 li, .bool h] 24)) by go_grown)
  have HS0 := Lib.hid (B5.new (w := w) rfl t v lt li h 24)
  have HN := Lib.hid hn
  have HA := Lib.hid hA
  clear hn hA
  go_enter Try.func5, Try.ntmps5
  go_wp2_with fail
  generalize (w.alloc (.cells #[.int .u64 t, .int .u64 v, .int .u64 lt, .int .u64 li, .bool h] 24)) = W at *
  refine (shown_any _).mono ?_
  rintro e w1 ⟨rfl, hb1⟩
  have HS1 := Lib.hid (HS0.out.later hb1)
  have HB1 := Lib.hid (HB0.out.trans (hb1.mono HB0.out.size))
  clear hb1
  obtain ⟨s0, s1, s2, s3, s4, sz, sl⟩ := HS1.out
  go_wp2_with fail
  go_loopw [6, 7, 8] (fun tv gv i wr => ∃ (k t v lt li : Nat) (h : Bool), k ≤ n ∧ i = .int .i64 k ∧ tv = .int .u64 t ∧ gv = .int .u64 v ∧ B5 wr w.heap.size t v lt li h ∧ Below w.heap.size w wr) (fun _ _ i _ => n - (intOf i).toNat)
  case atStart => exact ⟨0, t, v, lt, li, h, Nat.zero_le _, rfl, rfl, rfl, HS1.out, HB1.out⟩
  case round =>
    obtain ⟨k, t, v, lt, li, h, hk, rfl, rfl, rfl, hS, hB⟩ := hrel
    clear s0 s1 s2 s3 s4 sz sl HS1 HB1 HB0 HS0
    have HS := Lib.hid hS
    have HB := Lib.hid hB
    clear hS hB
    by_cases hlt : k < n
    · obtain ⟨x, hx⟩ : ∃ x, L[k]? = some x := ⟨_, List.getElem?_eq_getElem (by rw [HN.out]; exact hlt)⟩
      have i0 : (0 : Int) ≤ (k : Int) := by omega
      have i1 : (k : Int) < (n : Int) := by omega
      obtain ⟨b, off, rfl, hb, hc⟩ := HA.out.later HB.out k x hx
      obtain ⟨xt, xf, xl, xi, xp⟩ := x
      have p0 := hc 0 _ rfl
      have p1 := hc 1 _ rfl
      have p2 := hc 2 _ rfl
      have p3 := hc 3 _ rfl
      have p4 := hc 4 _ rfl
      simp only [Nat.add_zero] at p0 p1 p2 p3 p4
      clear hc hx
      have HP := Lib.hid (And.intro p0 (And.intro p1 (And.intro p2 (And.intro p3 p4))))
      obtain ⟨r, hr⟩ : ∃ r, ansS ⟨t, v, lt, li, h⟩ ⟨xt, xf, xl, xi, xp⟩ = r := ⟨_, rfl⟩
      have HR := Lib.hid hr
      obtain ⟨⟨rt, rv, rlt, rli, rh⟩, ro⟩ := r
      clear hr
      obtain ⟨s0, s1, s2, s3, s4, sz, sl⟩ := HS.out
      go_upto_region 7 with fail
      go_cut [9, 10] (fun pv ov wx => ∃ q, pv = .pointer (some ⟨q, 0, none⟩) ∧ ov = .bool ro ∧ w.heap.size < q ∧ B5 wx q rt rv rlt rli rh ∧ Below wr.heap.size wr wx)
      case first =>
        go_region_with (go_at_call 9; (with_reducible refine (pAnswer_any t v lt li h xt xf xl xi xp _).mono ?_); intro e w2 h2; rw [HR.out] at h2; obtain ⟨rfl, hb2⟩ := h2; simp only at *; first | (have hT := (B5.new (w := wr.drew) (x := wr.heap.size) (by simp) 0 0 0 0 false 24).later hb2; have HT2 := Lib.hid hT; obtain ⟨q0, q1, q2, q3, q4, qz, ql⟩ := hT) | skip)
        all_goals
          go_wp2_with fail
          go_meet
          have bb : Below wr.heap.size wr w2 := Below.trans (by go_grown) (hb2.mono (by simp))
          first
            | exact ⟨_, rfl, rfl, Nat.lt_of_lt_of_le sl bb.size, B5.new rfl _ _ _ _ _ _, bb.alloc bb.size _⟩
            | exact ⟨_, rfl, rfl, sl, HT2.out.put _ _ _ _ _, below_set5 bb (Nat.le_refl _)⟩
      case rest =>
        obtain ⟨q, rfl, rfl, hq, hT, hB2⟩ := hcut
        have HT := Lib.hid hT
        have HS2 := Lib.hid (HS.out.later hB2)
        have y0 := (hB2.cell (p := ⟨b, off + k * 5, none⟩) hb).trans HP.out.1
        have y1 := (hB2.cell (p := ⟨b, off + k * 5 + 1, none⟩) hb).trans HP.out.2.1
        have y4 := (hB2.cell (p := ⟨b, off + k * 5 + 4, none⟩) hb).trans HP.out.2.2.2.2
        have HB2 := Lib.hid (HB.out.trans (hB2.mono HB.out.size))
        have hfin := fin5 HS2.out HB2.out rt rv rlt rli rh
        have HF := Lib.hid hfin
        clear s0 s1 s2 s3 s4 sz sl p0 p1 p2 p3 p4 hT hB2 hfin
        obtain ⟨t0, t1, t2, t3, t4, tz, tl⟩ := HT.out
        obtain ⟨s0, s1, s2, s3, s4, sz, sl⟩ := HS2.out
        cases xp
        · have g0 := ansS_term ⟨t, v, lt, li, h⟩ ⟨xt, xf, xl, xi, false⟩
          rw [HR.out] at g0
          have g1 : ¬ (rt : Int) < (t : Int) := by simp only at g0; omega
          cases ro
          · have g2 := ansS_no ⟨t, v, lt, li, h⟩ ⟨xt, xf, xl, xi, false⟩ (by rw [HR.out])
            rw [HR.out] at g2
            simp only at g0 g2
            by_cases g3 : t < rt
            · have g4 : (t : Int) < (rt : Int) := by omega
              rw [if_pos g3] at g2
              subst g2
              go_wp2_with fail
              go_roundw
              case rel => exact ⟨k + 1, rt, 0, rlt, rli, rh, by omega, by go_num, rfl, rfl, HF.out _ rfl⟩
              case measure => simp [intOf]; omega
            · have g4 : rt = t := by omega
              subst g4
              rw [if_neg g3] at g2
              subst g2
              go_wp2_with fail
              go_roundw
              case rel => exact ⟨k + 1, rt, rv, rlt, rli, rh, by omega, by go_num, rfl, rfl, HF.out _ rfl⟩
              case measure => simp [intOf]; omega
          · obtain ⟨e1, e2, e3, e4⟩ := ansS_ok ⟨t, v, lt, li, h⟩ ⟨xt, xf, xl, xi, false⟩ rfl (by rw [HR.out])
            rw [HR.out] at e1 e2 e4
            simp only at g0 e1 e2 e3 e4
            subst e1 e2
            have g5 : ((rv : Int) == 0) = false := by simp; omega
            by_cases g3 : t < rt
            · have g4 : (t : Int) < (rt : Int) := by omega
              go_wp2_with fail
              go_roundw
              case rel => exact ⟨k + 1, rt, rv, rlt, rli, rh, by omega, by go_num, rfl, rfl, HF.out _ rfl⟩
              case measure => simp [intOf]; omega
            · have g4 : rt = t := by omega
              subst g4
              by_cases g6 : v = 0
              · subst g6
                go_wp2_with fail
                go_roundw
                case rel => exact ⟨k + 1, rt, rv, rlt, rli, rh, by omega, by go_num, rfl, rfl, HF.out _ rfl⟩
                case measure => simp [intOf]; omega
              · have g7 : v = rv := (e4 rfl).resolve_left g6
                subst g7
                go_wp2_with fail
                go_roundw
                case rel => exact ⟨k + 1, rt, v, rlt, rli, rh, by omega, by go_num, rfl, rfl, HF.out _ rfl⟩
                case measure => simp [intOf]; omega
        · have g0 := ansS_pre ⟨t, v, lt, li, h⟩ ⟨xt, xf, xl, xi, true⟩ rfl
          rw [HR.out] at g0
          simp only [Se.mk.injEq] at g0
          obtain ⟨rfl, rfl, rfl, rfl, rfl⟩ := g0
          cases ro
          all_goals
            go_wp2_with fail
            go_roundw
            case rel => exact ⟨k + 1, rt, rv, rlt, rli, rh, by omega, by go_num, rfl, rfl, HF.out _ rfl⟩
            case measure => simp [intOf]; omega
    · obtain ⟨s0, s1, s2, s3, s4, sz, sl⟩ := HS.out
      go_wp2_with fail
      go_ret
      exact ⟨by first | rfl | simp, HB.out⟩
end Go.Proofs.Ytmcmanjniloeaaa
