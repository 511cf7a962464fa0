/- Right: the document's. -/
import Derived.Test.YtdcpiaoadbbdoaaGreatDoorRtake
import Derived.Test.YtdcpiaoadbbdoaaGreatDoorAp
import Derived.Test.YtdcpiaoadbbdoaaGreatDoorZs
import Derived.Deep.DeepCutAuto
set_option maxRecDepth 100000
set_option maxHeartbeats 16000000
namespace Go.Proofs.YtdcpiaoadbbdoaaGreatDoor
open Go.RowKit

def fallB : Nat → List En → Bool
 | _, [] => false
 | h, x :: r => decide (x.t < h) || fallB x.t r
theorem fallB_at {h k : Nat} {L : List En} {x : En} (hx : L[k]? = some x) : fallB h (L.drop k) = (decide (x.t < h) || fallB x.t (L.drop (k + 1))) := by
 have hk := (List.getElem?_eq_some_iff.1 hx)
 obtain ⟨hk, rfl⟩ := hk
 rw [List.drop_eq_getElem_cons hk]; rfl
def rightB (g : Lg) : Bool := decide (g.base ≤ 1099511627776) && decide (g.L.length ≤ 1024) && !fallB g.bt g.L
theorem fallB_no {h : Nat} : ∀ {L : List En}, fallB h L = false → (∀ x ∈ L, h ≤ x.t) ∧ L.Pairwise fun x y => x.t ≤ y.t
 | [], _ => ⟨(fun x hx => by cases hx), List.Pairwise.nil⟩
 | x :: r, hf => by
  simp only [fallB, Bool.or_eq_false_iff, decide_eq_false_iff_not] at hf
  obtain ⟨h1, h2⟩ := fallB_no hf.2
  exact ⟨fun y hy => (List.mem_cons.1 hy).elim (fun e => by rw [e]; omega) fun e => by have := h1 y e; omega, List.pairwise_cons.2 ⟨h1, h2⟩⟩
theorem rRight_any (base bt n c : Nat) (snap : ByteArray) (a : Option Addr) (L : List En) (hn : L.length = n) (hl : n ≤ 140737488351232) (w : World) (hE : Ents w a L) :
 Calls Tryz.prog 64 #[.agg #[.int .u64 base, .int .u64 bt, .string snap, .slice a n c]] w fun e w' => e = .returned (.bool (rightB ⟨base, bt, snap, L⟩)) ∧ Below w.heap.size w w' := by
 have B0 : Below w.heap.size w (w.alloc (.cells #[.int .u64 base, .int .u64 bt, .string snap, .slice a n c] 28)) := by go_grown
 obtain ⟨l0, l1, l2, l3, _, ll⟩ := Lb.new (w := w) rfl base bt snap (.slice a n c) 28
 have hE0 := hE.later B0
 by_cases h1 : base ≤ 1099511627776
 case neg =>
  have g1 : decide ((1099511627776 : Int) < (base : Int)) = true := decide_eq_true (by omega)
  have HR := hI_ (show rightB ⟨base, bt, snap, L⟩ = false by unfold rightB; simp [h1])
  clear h1 hE hE0
  go_enter Tryz.func64, Tryz.ntmps64
  go_wp2_with fail
  go_ret
  exact ⟨by rw [HR.out]; first | rfl | simp, B0⟩
 have g1 : decide ((1099511627776 : Int) < (base : Int)) = false := decide_eq_false (by omega)
 by_cases h2 : n ≤ 1024
 case neg =>
  have g2 : (1024 : Int) < (n : Int) := by omega
  have HR := hI_ (show rightB ⟨base, bt, snap, L⟩ = false by unfold rightB; simp [hn, h2])
  clear h1 hE hE0 h2
  go_enter Tryz.func64, Tryz.ntmps64
  go_wp2_with fail
  go_ret
  exact ⟨by rw [HR.out]; first | rfl | simp, B0⟩
 have g2 : ¬ (1024 : Int) < (n : Int) := by omega
 have HR := hI_ (show rightB ⟨base, bt, snap, L⟩ = !fallB bt L by unfold rightB; simp [hn, h2, h1])
 have HN := hI_ hn
 have HE := hI_ hE0
 clear h1 h2 hE hE0 hn
 go_enter Tryz.func64, Tryz.ntmps64
 go_wp2_with fail
 generalize w.alloc (.cells #[.int .u64 base, .int .u64 bt, .string snap, .slice a n c] 28) = W at *
 go_loop [3] (fun u => ∃ k : Nat, k ≤ n ∧ u = .int .i64 k ∧ fallB bt L = fallB (lastT bt (L.take k)) (L.drop k)) (fun u => n - (intOf u).toNat)
 case atStart => exact ⟨0, Nat.zero_le _, rfl, rfl⟩
 case round =>
  obtain ⟨k, hk, rfl, hf⟩ := hrel
  have HFB := hI_ hf
  clear hf
  by_cases hlt : k < n
  · obtain ⟨x, hx⟩ : ∃ x, L[k]? = some x := ⟨_, List.getElem?_eq_getElem (by rw [HN.out]; exact hlt)⟩
    have i0 : (0 : Int) ≤ (k : Int) := by omega
    have i1 : (k : Int) < (n : Int) := by omega
    obtain ⟨b, off, rfl, hb, p0, p1⟩ := HE.out k x hx
    have hfa := fallB_at (h := lastT bt (L.take k)) hx
    have hs := lastT_take_succ (bt := bt) hx
    by_cases hk0 : k = 0
    · subst hk0
      rw [List.take_zero, lastT_nil] at hfa
      have HFB2 := hI_ (show fallB bt L = (decide (x.t < bt) || fallB x.t (L.drop (0 + 1))) from hfa)
      have HS := hI_ hs
      have HX := hI_ hx
      simp only [Nat.zero_mul, Nat.add_zero] at p0 p1
      clear hfa hs hx
      by_cases hfl : x.t < bt
      · have g : (x.t : Int) < (bt : Int) := by omega
        have HT := hI_ (show rightB ⟨base, bt, snap, L⟩ = false by rw [HR.out, HFB2.out, decide_eq_true hfl]; rfl)
        go_wp2_with fail
        go_ret
        exact ⟨by rw [HT.out]; first | rfl | simp, B0⟩
      · have g : ¬ (x.t : Int) < (bt : Int) := by omega
        have HT := hI_ (show fallB bt L = fallB (lastT bt (L.take (0 + 1))) (L.drop (0 + 1)) by rw [HS.out, HFB2.out, decide_eq_false hfl]; rfl)
        go_wp2_with fail
        go_round
        case rel => exact ⟨0 + 1, by omega, by go_num, HT.out⟩
        case measure => simp [intOf]; omega
    · obtain ⟨y, hy⟩ : ∃ y, L[k - 1]? = some y := ⟨_, List.getElem?_eq_getElem (by rw [HN.out]; omega)⟩
      have hsy := lastT_take_succ (bt := bt) hy
      rw [show k - 1 + 1 = k by omega] at hsy
      rw [hsy] at hfa
      obtain ⟨b', off', e', hb', q0, q1⟩ := HE.out (k - 1) y hy
      cases e'
      obtain ⟨k1, hk1⟩ : ∃ k1, k - 1 = k1 := ⟨_, rfl⟩
      rw [hk1] at q0 q1
      have e1 : (k : Int) - 1 = (k1 : Int) := by omega
      have j0 : (0 : Int) ≤ (k1 : Int) := by omega
      have j1 : (k1 : Int) < (n : Int) := by omega
      have j2 : (0 : Int) < (k : Int) := by omega
      have HFB2 := hI_ ((HFB.out.trans (by rw [hsy])).trans hfa)
      have HS := hI_ hs
      have HX := hI_ hx
      have HK1 := hI_ hk1
      clear hfa hs hx hy hsy hk1 hk0
      by_cases hfl : x.t < y.t
      · have g : (x.t : Int) < (y.t : Int) := by omega
        have HT := hI_ (show rightB ⟨base, bt, snap, L⟩ = false by rw [HR.out, HFB2.out, decide_eq_true hfl]; rfl)
        go_wp2_with fail
        go_ret
        exact ⟨by rw [HT.out]; first | rfl | simp, B0⟩
      · have g : ¬ (x.t : Int) < (y.t : Int) := by omega
        have HT := hI_ (show fallB bt L = fallB (lastT bt (L.take (k + 1))) (L.drop (k + 1)) by rw [HS.out, HFB2.out, decide_eq_false hfl]; rfl)
        go_wp2_with fail
        go_round
        case rel => exact ⟨k + 1, by omega, by go_num, HT.out⟩
        case measure => simp [intOf]; omega
  · have HT := hI_ (show rightB ⟨base, bt, snap, L⟩ = true by rw [HR.out, HFB.out, List.drop_eq_nil_of_le (by rw [HN.out]; omega)]; rfl)
    go_wp2_with fail
    go_ret
    exact ⟨by rw [HT.out]; first | rfl | simp, B0⟩
end Go.Proofs.YtdcpiaoadbbdoaaGreatDoor
