/- The document's Within and Bound. -/
import Derived.Test.YtoabpakichjieaaEh
import Derived.Deep.CutBlock
import Derived.Deep.RegionHeld3
import Derived.Deep.DeepCutAuto
namespace Go.Proofs.Ytoabpakichjieaa
open Go.RowKit

/-- A number in quarters in a box, beside all that was there. -/
def Hx (w0 : World) (x a b c d : Nat) (w : World) : Prop :=
  w.cell? ⟨x, 0, none⟩ = some (.int .u64 (a : Nat)) ∧ w.cell? ⟨x, 1, none⟩ = some (.int .u64 (b : Nat)) ∧ w.cell? ⟨x, 2, none⟩ = some (.int .u64 (c : Nat)) ∧ w.cell? ⟨x, 3, none⟩ = some (.int .u64 (d : Nat)) ∧ x < w.heap.size ∧ Below w0.heap.size w0 w
theorem Hx.new {w0 w : World} {x : Nat} (hx : x = w.heap.size) (hB : Below w0.heap.size w0 w) (a b c d : Nat) (T : TypeId) : Hx w0 x a b c d (w.alloc (.cells #[.int .u64 a, .int .u64 b, .int .u64 c, .int .u64 d] T)) := by
  subst hx
  exact ⟨by simp [go_sem], by simp [go_sem], by simp [go_sem], by simp [go_sem], by simp, hB.alloc hB.size _⟩
theorem Hx.later {w0 w w' : World} {x a b c d : Nat} (h : Hx w0 x a b c d w) (hb : Below w.heap.size w w') : Hx w0 x a b c d w' := by
  obtain ⟨h0, h1, h2, h3, hl, hB⟩ := h
  exact ⟨(hb.cell (p := ⟨x, 0, none⟩) hl).trans h0, (hb.cell (p := ⟨x, 1, none⟩) hl).trans h1, (hb.cell (p := ⟨x, 2, none⟩) hl).trans h2, (hb.cell (p := ⟨x, 3, none⟩) hl).trans h3, Nat.lt_of_lt_of_le hl hb.size, hB.trans (hb.mono hB.size)⟩
theorem Hx.drew {w0 w : World} {x a b c d : Nat} (h : Hx w0 x a b c d w) : Hx w0 x a b c d w.drew := h.later (Below.refl _ _).drew
theorem keepH {w0 w w' : World} {x a b c d : Nat} (h : w.cell? ⟨x, 0, none⟩ = some (.int .u64 (a : Nat)) ∧ w.cell? ⟨x, 1, none⟩ = some (.int .u64 (b : Nat)) ∧ w.cell? ⟨x, 2, none⟩ = some (.int .u64 (c : Nat)) ∧ w.cell? ⟨x, 3, none⟩ = some (.int .u64 (d : Nat)) ∧ x < w.heap.size ∧ Below w0.heap.size w0 w) (hb : Below w.heap.size w w') :
    w'.cell? ⟨x, 0, none⟩ = some (.int .u64 (a : Nat)) ∧ w'.cell? ⟨x, 1, none⟩ = some (.int .u64 (b : Nat)) ∧ w'.cell? ⟨x, 2, none⟩ = some (.int .u64 (c : Nat)) ∧ w'.cell? ⟨x, 3, none⟩ = some (.int .u64 (d : Nat)) ∧ x < w'.heap.size ∧ Below w0.heap.size w0 w' := Hx.later (show Hx w0 x a b c d w from h) hb
set_option maxHeartbeats 4000000 in
theorem rWithin_any (r l d : Nat) (hr : r < 18446744073709551616) (hl : l < 18446744073709551616) (hd : d < 18446744073709551616) (w : World) :
    Calls Try.prog 13 #[.int .u64 r, .int .u64 l, .int .u64 d] w fun e w' => e = .returned (.bool (wit r l d)) ∧ Below w.heap.size w w' := by
  by_cases h2 : d < 2
  · have g : (d : Int) < 2 := by omega
    have e1 : wit r l d = false := by unfold wit; rw [decide_eq_false (by omega)]; rfl
    rw [e1]
    go_enter Try.func13, Try.ntmps13
    go_wp2_with fail
    go_ret
    exact ⟨rfl, Below.refl _ _⟩
  have g : ¬ (d : Int) < 2 := by omega
  obtain ⟨d1, hd1⟩ : ∃ x, d - 1 = x := ⟨_, rfl⟩
  have g1 : (d : Int) - 1 = (d1 : Int) := by omega
  have gw : IntKind.u64.wrap ((d : Int) - 1) = (d1 : Int) := by rw [g1]; exact wrapN _ (by omega)
  have gw2 : IntKind.u64.wrap (d1 : Int) = (d1 : Int) := wrapN _ (by omega)
  have hsq : r * d ≤ 18446744073709551615 * 18446744073709551615 := Nat.mul_le_mul (by omega) (by omega)
  obtain ⟨c1, hc1⟩ : ∃ c, decide (r * d1 ≤ l * d) = c := ⟨_, rfl⟩
  obtain ⟨c2, hc2⟩ : ∃ c, decide (l * d ≤ r * d + r) = c := ⟨_, rfl⟩
  have hwit : wit r l d = (c1 && c2) := by
    unfold wit; rw [decide_eq_true (by omega : 2 ≤ d), hd1, Nat.mul_add, Nat.mul_one, hc1, hc2]; rfl
  rw [hwit]
  have hd1b : d1 < 18446744073709551616 := by omega
  have hsum : r * d + r < 340282366920938463463374607431768211456 := by omega
  obtain ⟨a0, a1, a2, a3, qa⟩ := qt_of (l * d)
  obtain ⟨b0, b1, b2, b3, qb⟩ := qt_of (r * d1)
  obtain ⟨e0, e1, e2, e3, qe⟩ := qt_of (r * d)
  obtain ⟨f0, f1, f2, f3, qf⟩ := qt_of (r * d + r)
  have T1 := Lib.hid (fun w => rTimes_any l d a0 a1 a2 a3 hl hd qa w)
  have T2 := Lib.hid (fun w => rTimes_any r d1 b0 b1 b2 b3 hr hd1b qb w)
  have T3 := Lib.hid (fun w => rTimes_any r d e0 e1 e2 e3 hr hd qe w)
  have T4 := Lib.hid (fun w => rMore_any (r * d) r e0 e1 e2 e3 f0 f1 f2 f3 hr hsum qe qf w)
  have K1 := Lib.hid (fun w => rMost_any (r * d1) (l * d) b0 b1 b2 b3 a0 a1 a2 a3 c1 qb qa hc1 w)
  have K2 := Lib.hid (fun w => rMost_any (l * d) (r * d + r) a0 a1 a2 a3 f0 f1 f2 f3 c2 qa qf hc2 w)
  clear hwit hc1 hc2 hsq hsum qa qb qe qf hd1
  go_enter Try.func13, Try.ntmps13
  go_wp2_with fail
  refine (T1.out _).mono ?_
  rintro e w1 ⟨rfl, hb1⟩
  have H1 := Lib.hid (Hx.new (w0 := w) rfl hb1 a0 a1 a2 a3 50)
  obtain ⟨x, hx⟩ : ∃ x, x = w1.heap.size := ⟨_, rfl⟩
  go_upto_region 4 with (fail)
  rw [← hx] at H1 ⊢
  generalize w1.alloc (.cells #[.int .u64 a0, .int .u64 a1, .int .u64 a2, .int .u64 a3] 50) = W at *
  clear hx hb1 w1
  have S1 := H1.out.drew
  unfold Hx at S1
  clear H1
  go_wp2_with fail
  go_region_held3 (fun w' => w'.cell? ⟨x, 0, none⟩ = some (.int .u64 (a0 : Nat)) ∧ w'.cell? ⟨x, 1, none⟩ = some (.int .u64 (a1 : Nat)) ∧ w'.cell? ⟨x, 2, none⟩ = some (.int .u64 (a2 : Nat)) ∧ w'.cell? ⟨x, 3, none⟩ = some (.int .u64 (a3 : Nat)) ∧ x < w'.heap.size ∧ Below w.heap.size w w')
    (first | (with_reducible assumption) | go_keep)
    (first
      | (go_at_call 20; (with_reducible refine (T2.out _).mono ?_); rintro e w2 ⟨rfl, hb2⟩; have S2 := keepH S1 hb2)
      | (go_at_call 21; (with_reducible refine (K1.out _).mono ?_); rintro e w3 ⟨rfl, hb3⟩; have S3 := keepH S2 hb3))
  all_goals
    have HS3 := Lib.hid S3
    clear S1 S2 S3
    go_upto_region 5 with (fail)
    have S1 := keepH HS3.out (Below.refl _ _).drew
    clear HS3
    go_wp2_with fail
    go_region_held3 (fun w' => w'.cell? ⟨x, 0, none⟩ = some (.int .u64 (a0 : Nat)) ∧ w'.cell? ⟨x, 1, none⟩ = some (.int .u64 (a1 : Nat)) ∧ w'.cell? ⟨x, 2, none⟩ = some (.int .u64 (a2 : Nat)) ∧ w'.cell? ⟨x, 3, none⟩ = some (.int .u64 (a3 : Nat)) ∧ x < w'.heap.size ∧ Below w.heap.size w w')
      (first | (with_reducible assumption) | go_keep)
      (first
        | (go_at_call 20; (with_reducible refine (T3.out _).mono ?_); rintro e w4 ⟨rfl, hb4⟩; have S2 := keepH S1 hb4)
        | (go_at_call 22; (with_reducible refine (T4.out _).mono ?_); rintro e w5 ⟨rfl, hb5⟩; have S3 := keepH S2 hb5)
        | (go_at_call 21; (with_reducible refine (K2.out _).mono ?_); rintro e w6 ⟨rfl, hb6⟩; have S4 := keepH S3 hb6))
    all_goals
      have B := S4.2.2.2.2.2
      clear S1 S2 S3 S4
      cases c1
      · go_wp2_with fail
        go_ret
        exact ⟨by first | rfl | simp, B⟩
      · go_wp2_with fail
        go_ret
        exact ⟨by first | rfl | simp, B⟩
end Go.Proofs.Ytoabpakichjieaa
