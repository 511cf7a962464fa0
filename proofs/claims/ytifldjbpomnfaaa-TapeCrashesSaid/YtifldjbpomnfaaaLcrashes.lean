/- TapeCrashes: whatever tape there is, a crash, and power, leave of it what the document says. -/
import Derived.Test.YtifldjbpomnfaaaTs
import Derived.Test.YtifldjbpomnfaaaTg
import Derived.Deep.RegionHeld3
namespace Go.Proofs.Ytifldjbpomnfaaa
open Go.RowKit

/-- What is held of the tape's box while callees make memory. -/
theorem keepS {w wp w2 : World} {x : Nat} {v0 v1 v2 v3 : Value} (K : wp.cell? ⟨x, 0, none⟩ = some v0 ∧ wp.cell? ⟨x, 1, none⟩ = some v1 ∧ wp.cell? ⟨x, 2, none⟩ = some v2 ∧ wp.cell? ⟨x, 3, none⟩ = some v3 ∧ x < wp.heap.size ∧ Below x w wp) (hb : Below wp.heap.size wp w2) :
    w2.cell? ⟨x, 0, none⟩ = some v0 ∧ w2.cell? ⟨x, 1, none⟩ = some v1 ∧ w2.cell? ⟨x, 2, none⟩ = some v2 ∧ w2.cell? ⟨x, 3, none⟩ = some v3 ∧ x < w2.heap.size ∧ Below x w w2 := by
  obtain ⟨k0, k1, k2, k3, hx, hB⟩ := K
  exact ⟨(hb.cell (p := ⟨x, 0, none⟩) hx).trans k0, (hb.cell (p := ⟨x, 1, none⟩) hx).trans k1, (hb.cell (p := ⟨x, 2, none⟩) hx).trans k2, (hb.cell (p := ⟨x, 3, none⟩) hx).trans k3, Nat.lt_of_lt_of_le hx hb.size, hB.trans (hb.mono (Nat.le_of_lt hx))⟩

set_option maxHeartbeats 4000000 in
theorem law_TapeCrashes (a b : ByteArray) (p : Int) (o : Bool) (n m : Int) (hs : a.size + b.size ≤ 1125899906842624) (w : World) : Calls Try.prog 6 #[.agg #[.string a, .string b, .int .i64 p, .bool o], .int .i64 n, .int .i64 m] w fun e w' => e = .returned (.bool true) ∧ Below w.heap.size w w' := by
  go_enter Try.func6, Try.ntmps6
  go_wp2_with fail
  refine (shown_any _).mono ?_
  rintro e w1 ⟨rfl, hb1⟩
  have T1 := (Tb.new w _ rfl _ _ _ _ _).later hb1
  have B1 : Below w.heap.size w w1 := ((Below.refl _ _).alloc (Nat.le_refl _) _).trans (hb1.mono (by simp))
  clear hb1
  obtain ⟨c0, c1, c2, c3, fz, hx⟩ := T1
  generalize hrc : (tCrash ⟨a, b, p, o⟩ n).a = rc
  generalize hrp : (tPower ⟨a, b, p, o⟩ m).p = rp
  have HC := Lib.hid hrc
  have HP := Lib.hid hrp
  clear hrc hrp
  go_wp2_with fail
  have K1 : w1.drew.cell? ⟨w.heap.size, 0, none⟩ = some (.string a) ∧ w1.drew.cell? ⟨w.heap.size, 1, none⟩ = some (.string b) ∧ w1.drew.cell? ⟨w.heap.size, 2, none⟩ = some (.int .i64 p) ∧ w1.drew.cell? ⟨w.heap.size, 3, none⟩ = some (.bool o) ∧ w.heap.size < w1.drew.heap.size ∧ Below w.heap.size w w1.drew := ⟨c0, c1, c2, c3, hx, B1.drew⟩
  clear c0 c1 c2 c3 fz hx B1
  go_region_held3 (fun w' => w'.cell? ⟨w.heap.size, 0, none⟩ = some (.string a) ∧ w'.cell? ⟨w.heap.size, 1, none⟩ = some (.string b) ∧ w'.cell? ⟨w.heap.size, 2, none⟩ = some (.int .i64 p) ∧ w'.cell? ⟨w.heap.size, 3, none⟩ = some (.bool o) ∧ w.heap.size < w'.heap.size ∧ Below w.heap.size w w')
    (first | (with_reducible assumption) | go_keep)
    (first
      | (go_at_call 17; (with_reducible refine (crash_any _ _ _ _ _ _ hs).mono ?_); rintro e w2 ⟨rfl, hb2⟩; rw [HC.out]; have K2 := keepS ‹_ ∧ _› hb2)
      | (go_at_call 18; (with_reducible refine (ref_crash_any _ _ _ _ _ _ hs).mono ?_); rintro e w2 ⟨rfl, hb2⟩; rw [HC.out]; have K2 := keepS ‹_ ∧ _› hb2)
      | (go_at_call 19; (with_reducible refine (powered_any _ _ _ _ _ _).mono ?_); rintro e w2 ⟨rfl, hb2⟩; rw [HP.out]; have K2 := keepS ‹_ ∧ _› hb2)
      | (go_at_call 20; (with_reducible refine (ref_powered_any _ _ _ _ _ _).mono ?_); rintro e w2 ⟨rfl, hb2⟩; rw [HP.out]; have K2 := keepS ‹_ ∧ _› hb2))
  all_goals
    obtain ⟨_, _, _, _, _, hBx⟩ := K2
    clear K1
    go_wp2_with fail
    go_ret
    exact ⟨by simp, hBx⟩
end Go.Proofs.Ytifldjbpomnfaaa
