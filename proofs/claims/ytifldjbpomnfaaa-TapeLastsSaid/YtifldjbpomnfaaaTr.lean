/- Layer 3: Read, Powered: whatever tape there is. -/
import Derived.Test.YtifldjbpomnfaaaTp
import Derived.Deep.RegionHeld3
namespace Go.Proofs.Ytifldjbpomnfaaa
open Go.RowKit

theorem read_any (a b : ByteArray) (p : Int) (o : Bool) (w : World) (hs : a.size + b.size ≤ 1125899906842624) : Calls Try.prog 16 #[.agg #[.string a, .string b, .int .i64 p, .bool o]] w fun e w' =>
    e = .returned (.tuple #[.string (tRead ⟨a, b, p, o⟩).1, .int .i64 (tRead ⟨a, b, p, o⟩).2]) ∧ Below w.heap.size w w' := by
  unfold tRead
  cases o with
  | true =>
    go_enter Try.func16, Try.ntmps16
    go_wp2_with fail
    go_ret2
    exact ⟨rfl, (Below.refl _ _).alloc (Nat.le_refl _) _⟩
  | false =>
    go_enter Try.func16, Try.ntmps16
    go_wp2_with fail
    refine (contents_any a b p false hs _).mono ?_
    rintro e w1 ⟨rfl, hb1⟩
    go_wp2_with fail
    go_ret2
    exact ⟨rfl, ((Below.refl _ _).alloc (Nat.le_refl _) _).trans (hb1.mono (by simp))⟩

theorem powered_v (a b : ByteArray) (p n v : Int) (o : Bool) (w : World) (hv : v = if n < 0 then -1 else n) : Calls Try.prog 19 #[.agg #[.string a, .string b, .int .i64 p, .bool o], .int .i64 n] w fun e w' =>
    e = .returned (.agg #[.string a, .string b, .int .i64 v, .bool o]) ∧ Below w.heap.size w w' := by
  have HV := Lib.hid hv; clear hv
  go_enter Try.func19, Try.ntmps19
  go_wp2_with fail
  · have hv : v = -1 := by have := HV.out; omega
    subst hv
    refine bodyPost_ret (v := .agg #[.string a, .string b, .int .i64 (-1), .bool o]) (by simp [results, Try.results19, go_sem]) rfl ⟨rfl, ?_⟩
    go_grown
  · have hv : n = v := by have := HV.out; omega
    subst hv
    refine bodyPost_ret (v := .agg #[.string a, .string b, .int .i64 n, .bool o]) (by simp [results, Try.results19, go_sem]) rfl ⟨rfl, ?_⟩
    go_grown
theorem powered_any (a b : ByteArray) (p n : Int) (o : Bool) (w : World) : Calls Try.prog 19 #[.agg #[.string a, .string b, .int .i64 p, .bool o], .int .i64 n] w fun e w' =>
    e = .returned (.agg #[.string a, .string b, .int .i64 (tPower ⟨a, b, p, o⟩ n).p, .bool o]) ∧ Below w.heap.size w w' := powered_v a b p n _ o w rfl
theorem four_far {w1 : World} {x y : Nat} (hne : x ≠ y) (i : Nat) (v0 v1 v2 v3 : Value) : ((((w1.setCell ⟨x, 0, none⟩ v0).setCell ⟨x, 1, none⟩ v1).setCell ⟨x, 2, none⟩ v2).setCell ⟨x, 3, none⟩ v3).cell? ⟨y, i, none⟩ = w1.cell? ⟨y, i, none⟩ := by
  rw [World.cell?_setCell_far _ _ _ _ hne, World.cell?_setCell_far _ _ _ _ hne, World.cell?_setCell_far _ _ _ _ hne, World.cell?_setCell_far _ _ _ _ hne]
/-- Four cells of a block written. -/
def set4 (w : World) (x : Nat) (v0 v1 v2 v3 : Value) : World := (((w.setCell ⟨x, 0, none⟩ v0).setCell ⟨x, 1, none⟩ v1).setCell ⟨x, 2, none⟩ v2).setCell ⟨x, 3, none⟩ v3
theorem set4_far {w1 : World} {x y : Nat} (hne : x ≠ y) (i : Nat) (v0 v1 v2 v3 : Value) : (set4 w1 x v0 v1 v2 v3).cell? ⟨y, i, none⟩ = w1.cell? ⟨y, i, none⟩ := four_far hne i v0 v1 v2 v3
theorem set4_at {w1 : World} {x : Nat} {u0 u1 u2 u3 v0 v1 v2 v3 : Value} (h0 : w1.cell? ⟨x, 0, none⟩ = some u0) (h1 : w1.cell? ⟨x, 1, none⟩ = some u1) (h2 : w1.cell? ⟨x, 2, none⟩ = some u2) (h3 : w1.cell? ⟨x, 3, none⟩ = some u3) :
    (set4 w1 x v0 v1 v2 v3).cell? ⟨x, 0, none⟩ = some v0 ∧ (set4 w1 x v0 v1 v2 v3).cell? ⟨x, 1, none⟩ = some v1 ∧ (set4 w1 x v0 v1 v2 v3).cell? ⟨x, 2, none⟩ = some v2 ∧ (set4 w1 x v0 v1 v2 v3).cell? ⟨x, 3, none⟩ = some v3 := by
  unfold set4; refine ⟨?_, ?_, ?_, ?_⟩ <;> simp [go_sem, h0, h1, h2, h3]
theorem set4_frozen {w1 : World} {x : Nat} {v0 v1 v2 v3 : Value} (p : Addr) : (set4 w1 x v0 v1 v2 v3).frozen? p = w1.frozen? p := by unfold set4; simp
theorem set4_size {w1 : World} {x : Nat} {v0 v1 v2 v3 : Value} : (set4 w1 x v0 v1 v2 v3).heap.size = w1.heap.size := by unfold set4; simp
theorem set4_below {w w1 : World} {B x : Nat} {v0 v1 v2 v3 : Value} (h : Below B w w1) (hx : B ≤ x) : Below B w (set4 w1 x v0 v1 v2 v3) := (((h.setCell hx _).setCell hx _).setCell hx _).setCell hx _
end Go.Proofs.Ytifldjbpomnfaaa
