/- Right: the program's whole, and the document's; RlogAsks. -/
import Derived.Test.YtkifgjgjhjhknaaLr
namespace Go.Proofs.Ytkifgjgjhjhknaa
open Go.RowKit

set_option maxRecDepth 100000 in
set_option maxHeartbeats 2000000 in
theorem pRight_any (base bt n c : Nat) (snap : ByteArray) (a : Option Addr) (L : List En) (hn : L.length = n) (hl : n ≤ 140737488351232) (w : World) (hE : Ents w a L) :
    Calls Try.prog 14 #[.agg #[.int .u64 base, .int .u64 bt, .string snap, .slice a n c]] w fun e w' => e = .returned (.bool (rightB ⟨base, bt, snap, L⟩)) ∧ Below w.heap.size w w' := by
  have hfar : ∀ q, a = some q → 0 < n → q.block < w.heap.size + 1 := fun q e h0 => by
    obtain ⟨b, off, e2, hlt⟩ := hE.addr (by omega)
    rw [e] at e2; cases e2; simp only; omega
  have B0 : Below w.heap.size w ((w.alloc (.cells #[.int .u64 base, .int .u64 bt, .string snap, .slice a n c] 25)).alloc (.cells #[.int .u64 bt] 22)) := by go_grown
  have L0 := (Lb.new (w := w) rfl base bt snap (.slice a n c) 25).past (.cells #[.int .u64 bt] 22)
  have N0 : Nb ((w.alloc (.cells #[.int .u64 base, .int .u64 bt, .string snap, .slice a n c] 25)).alloc (.cells #[.int .u64 bt] 22)) (w.heap.size + 1) bt := ⟨by simp [go_sem], by simp [go_sem], by simp⟩
  have hE0 := hE.later B0
  by_cases h1 : base ≤ 1099511627776
  case neg =>
    have g1 : decide ((base : Int) ≤ 1099511627776) = false := decide_eq_false (by omega)
    have HR := Lib.hid (show rightB ⟨base, bt, snap, L⟩ = false by unfold rightB; simp [h1])
    clear h1 hE hE0 L0 N0 hfar
    go_enter Try.func14, Try.ntmps14
    go_wp2_with fail
    go_ret
    exact ⟨by rw [HR.out]; first | rfl | simp, B0⟩
  have g1 : decide ((base : Int) ≤ 1099511627776) = true := decide_eq_true (by omega)
  by_cases h2 : n ≤ 1024
  case neg =>
    have g2 : ¬ (n : Int) ≤ 1024 := by omega
    have HR := Lib.hid (show rightB ⟨base, bt, snap, L⟩ = false by unfold rightB; simp [hn, h2])
    clear h1 hE hE0 L0 N0 hfar h2
    go_enter Try.func14, Try.ntmps14
    go_wp2_with fail
    go_ret
    exact ⟨by rw [HR.out]; first | rfl | simp, B0⟩
  have g2 : (n : Int) ≤ 1024 := by omega
  have HR := Lib.hid (show rightB ⟨base, bt, snap, L⟩ = !fallB bt L by unfold rightB; simp [hn, h2, h1])
  have HN := Lib.hid hn
  have HE := Lib.hid hE0
  have HF := Lib.hid hfar
  have HNB := Lib.hid N0
  have HB := Lib.hid B0
  clear h1 h2 hE hE0 hfar hn L0 N0 B0
  obtain ⟨f, hf⟩ : ∃ f, fallB bt L = f := ⟨_, rfl⟩
  have HFF := Lib.hid hf
  clear hf
  go_enter Try.func14, Try.ntmps14
  go_wp2_with fail
  refine (contains_any bt (w.heap.size + 1) n c a L HN.out hl _ HNB.out HE.out HF.out).mono ?_
  rintro e w2 ⟨rfl, hb2⟩
  rw [HFF.out]
  have B2 := HB.out.trans (hb2.mono (by omega))
  clear hb2
  cases f
  · go_wp2_with fail
    go_ret
    exact ⟨by rw [HR.out, HFF.out]; first | rfl | simp, B2⟩
  · go_wp2_with fail
    go_ret
    exact ⟨by rw [HR.out, HFF.out]; first | rfl | simp, B2⟩
set_option maxRecDepth 100000 in
set_option maxHeartbeats 2000000 in
theorem rRight_any (base bt n c : Nat) (snap : ByteArray) (a : Option Addr) (L : List En) (hn : L.length = n) (hl : n ≤ 140737488351232) (w : World) (hE : Ents w a L) :
    Calls Try.prog 15 #[.agg #[.int .u64 base, .int .u64 bt, .string snap, .slice a n c]] w fun e w' => e = .returned (.bool (rightB ⟨base, bt, snap, L⟩)) ∧ Below w.heap.size w w' := by
  have B0 : Below w.heap.size w (w.alloc (.cells #[.int .u64 base, .int .u64 bt, .string snap, .slice a n c] 25)) := by go_grown
  obtain ⟨l0, l1, l2, l3, _, ll⟩ := Lb.new (w := w) rfl base bt snap (.slice a n c) 25
  have hE0 := hE.later B0
  by_cases h1 : base ≤ 1099511627776
  case neg =>
    have g1 : decide ((1099511627776 : Int) < (base : Int)) = true := decide_eq_true (by omega)
    have HR := Lib.hid (show rightB ⟨base, bt, snap, L⟩ = false by unfold rightB; simp [h1])
    clear h1 hE hE0
    go_enter Try.func15, Try.ntmps15
    go_wp2_with fail
    go_ret
    exact ⟨by rw [HR.out]; first | rfl | simp, B0⟩
  have g1 : decide ((1099511627776 : Int) < (base : Int)) = false := decide_eq_false (by omega)
  by_cases h2 : n ≤ 1024
  case neg =>
    have g2 : (1024 : Int) < (n : Int) := by omega
    have HR := Lib.hid (show rightB ⟨base, bt, snap, L⟩ = false by unfold rightB; simp [hn, h2])
    clear h1 hE hE0 h2
    go_enter Try.func15, Try.ntmps15
    go_wp2_with fail
    go_ret
    exact ⟨by rw [HR.out]; first | rfl | simp, B0⟩
  have g2 : ¬ (1024 : Int) < (n : Int) := by omega
  have HR := Lib.hid (show rightB ⟨base, bt, snap, L⟩ = !fallB bt L by unfold rightB; simp [hn, h2, h1])
  have HN := Lib.hid hn
  have HE := Lib.hid hE0
  clear h1 h2 hE hE0 hn
  go_enter Try.func15, Try.ntmps15
  go_wp2_with fail
  generalize w.alloc (.cells #[.int .u64 base, .int .u64 bt, .string snap, .slice a n c] 25) = W at *
  go_loop [3] (fun u => ∃ k : Nat, k ≤ n ∧ u = .int .i64 k ∧ fallB bt L = fallB (lastT bt (L.take k)) (L.drop k)) (fun u => n - (intOf u).toNat)
  case atStart => exact ⟨0, Nat.zero_le _, rfl, rfl⟩
  case round =>
    obtain ⟨k, hk, rfl, hf⟩ := hrel
    have HFB := Lib.hid hf
    clear hf
    by_cases hlt : k < n
    · obtain ⟨x, hx⟩ : ∃ x, L[k]? = some x := ⟨_, List.getElem?_eq_getElem (by rw [HN.out]; exact hlt)⟩
      have i0 : (0 : Int) ≤ (k : Int) := by omega
      have i1 : (k : Int) < (n : Int) := by omega
      obtain ⟨b, off, rfl, hb, p0, p1⟩ := HE.out k x hx
      have hfa := fallB_at (h := lastT bt (L.take k)) hx
      have hs := lastT_take_succ (bt := bt) hx
      by_cases hk0 : k = 0
      · subst hk0
        rw [List.take_zero, lastT_nil] at hfa
        have HFB2 := Lib.hid (show fallB bt L = (decide (x.t < bt) || fallB x.t (L.drop (0 + 1))) from hfa)
        have HS := Lib.hid hs
        have HX := Lib.hid hx
        simp only [Nat.zero_mul, Nat.add_zero] at p0 p1
        clear hfa hs hx
        by_cases hfl : x.t < bt
        · have g : (x.t : Int) < (bt : Int) := by omega
          have HT := Lib.hid (show rightB ⟨base, bt, snap, L⟩ = false by rw [HR.out, HFB2.out, decide_eq_true hfl]; rfl)
          go_wp2_with fail
          go_ret
          exact ⟨by rw [HT.out]; first | rfl | simp, B0⟩
        · have g : ¬ (x.t : Int) < (bt : Int) := by omega
          have HT := Lib.hid (show fallB bt L = fallB (lastT bt (L.take (0 + 1))) (L.drop (0 + 1)) by rw [HS.out, HFB2.out, decide_eq_false hfl]; rfl)
          go_wp2_with fail
          go_round
          case rel => exact ⟨0 + 1, by omega, by go_num, HT.out⟩
          case measure => simp [intOf]; omega
      · obtain ⟨y, hy⟩ : ∃ y, L[k - 1]? = some y := ⟨_, List.getElem?_eq_getElem (by rw [HN.out]; omega)⟩
        have hsy := lastT_take_succ (bt := bt) hy
        rw [show k - 1 + 1 = k by omega] at hsy
        rw [hsy] at hfa
        obtain ⟨b', off', e', hb', q0, q1⟩ := HE.out (k - 1) y hy
        cases e'
        obtain ⟨k1, hk1⟩ : ∃ k1, k - 1 = k1 := ⟨_, rfl⟩
        rw [hk1] at q0 q1
        have e1 : (k : Int) - 1 = (k1 : Int) := by omega
        have j0 : (0 : Int) ≤ (k1 : Int) := by omega
        have j1 : (k1 : Int) < (n : Int) := by omega
        have j2 : (0 : Int) < (k : Int) := by omega
        have HFB2 := Lib.hid ((HFB.out.trans (by rw [hsy])).trans hfa)
        have HS := Lib.hid hs
        have HX := Lib.hid hx
        have HK1 := Lib.hid hk1
        clear hfa hs hx hy hsy hk1 hk0
        by_cases hfl : x.t < y.t
        · have g : (x.t : Int) < (y.t : Int) := by omega
          have HT := Lib.hid (show rightB ⟨base, bt, snap, L⟩ = false by rw [HR.out, HFB2.out, decide_eq_true hfl]; rfl)
          go_wp2_with fail
          go_ret
          exact ⟨by rw [HT.out]; first | rfl | simp, B0⟩
        · have g : ¬ (x.t : Int) < (y.t : Int) := by omega
          have HT := Lib.hid (show fallB bt L = fallB (lastT bt (L.take (k + 1))) (L.drop (k + 1)) by rw [HS.out, HFB2.out, decide_eq_false hfl]; rfl)
          go_wp2_with fail
          go_round
          case rel => exact ⟨k + 1, by omega, by go_num, HT.out⟩
          case measure => simp [intOf]; omega
    · have HT := Lib.hid (show rightB ⟨base, bt, snap, L⟩ = true by rw [HR.out, HFB.out, List.drop_eq_nil_of_le (by rw [HN.out]; omega)]; rfl)
      go_wp2_with fail
      go_ret
      exact ⟨by rw [HT.out]; first | rfl | simp, B0⟩
end Go.Proofs.Ytkifgjgjhjhknaa
