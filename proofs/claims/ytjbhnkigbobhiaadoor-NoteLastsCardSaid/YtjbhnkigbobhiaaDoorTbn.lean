/- Layer 3 where a seat has Install and Read alone (split off Tp, Tq, Tw, Tr). -/
import Derived.Test.YtjbhnkigbobhiaaDoorRows
import Derived.WalkKit
import Derived.Handy
import Derived.WalkSpells
import Derived.WalkLawsBesides
import Derived.Deep.QuietTactic
import Derived.Deep.RegionWith
import Derived.BigQuiet
import Derived.Lib.Hide
import Derived.Deep.Draws
import Derived.Laws.StructEq
import Derived.Deep.RegionHeld3
namespace Go.Proofs.YtjbhnkigbobhiaaDoor
open Go.RowKit


/-- A tape: what lasts, what isn't synced, for how many acts there is power, whether it is without. -/
structure Tp where
  a : ByteArray
  b : ByteArray
  p : Int
  o : Bool
/-- An act that is done on a tape that isn't off, and has room for it. -/
def Tp.spent (t : Tp) : Tp := { t with p := if 0 < t.p then t.p - 1 else t.p }
def tWrite (t : Tp) (s : ByteArray) : Tp × Int :=
  if t.o then (t, 6) else if 262144 < t.a.size + t.b.size + s.size then (t, 5) else if t.p = 0 then ({ t with o := true }, 6) else ({ t.spent with b := t.b ++ s }, 0)
def tSync (t : Tp) : Tp × Int :=
  if t.o then (t, 6) else if t.p = 0 then ({ t with o := true }, 6) else ({ t.spent with a := t.a ++ t.b, b := ByteArray.empty }, 0)
def tInstall (t : Tp) (s : ByteArray) : Tp × Int :=
  if t.o then (t, 6) else if 262144 < s.size then (t, 5) else if t.p = 0 then ({ t with o := true }, 6) else ({ t.spent with a := s, b := ByteArray.empty }, 0)
def tRead (t : Tp) : ByteArray × Int := if t.o then (ByteArray.empty, 6) else (t.a ++ t.b, 0)
def tCrash (t : Tp) (k : Int) : Tp := ⟨t.a ++ t.b.extract 0 (min k.toNat t.b.size), ByteArray.empty, -1, false⟩
def tPower (t : Tp) (n : Int) : Tp := { t with p := if n < 0 then -1 else n }
theorem emp : ({ data := #[] } : ByteArray) = ByteArray.empty := rfl

theorem bcell {W w1 : World} (hb : Below W.heap.size W w1) : (∀ b o, b < W.heap.size → w1.cell? ⟨b, o, none⟩ = W.cell? ⟨b, o, none⟩) ∧ (∀ b o, b < W.heap.size → w1.frozen? ⟨b, o, none⟩ = W.frozen? ⟨b, o, none⟩) :=
  ⟨fun b o h => hb.cell (p := ⟨b, o, none⟩) h, fun b o h => hb.frozen (p := ⟨b, o, none⟩) h⟩

theorem fresh2 {w w1 : World} {c : Array Value} {t : TypeId} {o : Obj} {m : Nat} (hm : m = w.heap.size) (hc : ∀ b i, b < ((w.alloc (.cells c t)).alloc o).heap.size → w1.cell? ⟨b, i, none⟩ = ((w.alloc (.cells c t)).alloc o).cell? ⟨b, i, none⟩) (i : Nat) : w1.cell? ⟨m, i, none⟩ = c[i]? := by
  subst hm
  exact (hc _ _ (by simp; omega)).trans ((World.cell?_alloc_past _ _ _ (by simp)).trans (World.cell?_alloc_at _ _ _ _ rfl))

theorem contents_any (a b : ByteArray) (p : Int) (o : Bool) (hs : a.size + b.size ≤ 1125899906842624) (w : World) : Calls Tryd.prog 56 #[.agg #[.string a, .string b, .int .i64 p, .bool o]] w fun e w' => e = .returned (.string (a ++ b)) ∧ Below w.heap.size w w' := by
  go_enter Tryd.func56, Tryd.ntmps56
  go_wp2_with fail
  go_ret
  exact ⟨rfl, (Below.refl _ _).alloc (Nat.le_refl _) _⟩

theorem settled_any (a b s : ByteArray) (p : Int) (o : Bool) (w : World) : Calls Tryd.prog 55 #[.agg #[.string a, .string b, .int .i64 p, .bool o], .string s] w fun e w' => e = .returned (.agg #[.string s, .string ByteArray.empty, .int .i64 p, .bool o]) ∧ Below w.heap.size w w' := by
  go_enter Tryd.func55, Tryd.ntmps55
  go_wp2_with fail
  refine bodyPost_ret (v := .agg #[.string s, .string ByteArray.empty, .int .i64 p, .bool o]) (by simp [results, Tryd.results55, go_sem, emp]) rfl ⟨rfl, ?_⟩
  go_grown

theorem i_mf (fn : Fn) (first cap : Array Value) (w : World) : (Instr.makeFunc fn first cap).run Tryd.prog w = .ok (.func fn first cap) w := rfl
/-- The closure of an act: the tape in one box, the room in another. -/
theorem act_any (a b : ByteArray) (p n : Int) (o : Bool) (w : World) : Calls Tryd.prog 53 #[.agg #[.string a, .string b, .int .i64 p, .bool o], .int .i64 n] w fun e w' =>
    e = .returned (.func (.func 64) #[] #[.pointer (some ⟨w.heap.size, 0, none⟩), .pointer (some ⟨w.heap.size + 1, 0, none⟩)]) ∧ w' = (w.alloc (.cells #[.string a, .string b, .int .i64 p, .bool o] 44)).alloc (.cells #[.int .i64 n] 3) := by
  have hmf := i_mf
  go_enter Tryd.func53, Tryd.ntmps53
  go_wp2_with fail
  go_ret
  exact ⟨rfl, rfl⟩

theorem install1_any (a b s : ByteArray) (p : Int) (o : Bool) (x : Addr) (w : World) (hx : w.cell? x = some (.string s)) (hb : x.block < w.heap.size) : Calls Tryd.prog 54 #[.agg #[.string a, .string b, .int .i64 p, .bool o], .pointer (some x)] w fun e w' =>
    e = .returned (.agg #[.string s, .string ByteArray.empty, .int .i64 p, .bool o]) ∧ Below w.heap.size w w' := by
  go_enter Tryd.func54, Tryd.ntmps54
  go_wp2_with fail
  refine (settled_any a b s p o _).mono ?_
  rintro e w1 ⟨rfl, hb1⟩
  obtain ⟨hc1, hf1⟩ := bcell hb1
  have hz1 : w.heap.size + 1 < w1.heap.size := by have := hb1.size; simp at this; omega
  go_wp2_with fail
  refine bodyPost_ret (v := .agg #[.string s, .string ByteArray.empty, .int .i64 p, .bool o]) (by simp [results, Tryd.results54, go_sem, hc1]) rfl ⟨rfl, ?_⟩
  exact (((((((Below.refl _ w).alloc (Nat.le_refl _) _).alloc (by simp) _).trans (hb1.mono (by simp; omega))).setCell (by simp) _).setCell (by simp) _ |>.setCell (by simp) _).setCell (by simp) _)

/-- The tape in one box, the room in another. -/
structure Bx (w : World) (x y : Nat) (a b : ByteArray) (p n : Int) (o : Bool) : Prop where
  h0 : w.cell? ⟨x, 0, none⟩ = some (.string a)
  h1 : w.cell? ⟨x, 1, none⟩ = some (.string b)
  h2 : w.cell? ⟨x, 2, none⟩ = some (.int .i64 p)
  h3 : w.cell? ⟨x, 3, none⟩ = some (.bool o)
  h4 : w.cell? ⟨y, 0, none⟩ = some (.int .i64 n)
  hx : x < w.heap.size
  hy : y < w.heap.size
theorem act1_off (f : Value) (a b : ByteArray) (p n : Int) (x y : Nat) (w : World) (H : Bx w x y a b p n true) :
    Calls Tryd.prog 64 #[f, .pointer (some ⟨x, 0, none⟩), .pointer (some ⟨y, 0, none⟩)] w fun e w' => e = .returned (.tuple #[.agg #[.string a, .string b, .int .i64 p, .bool true], .int .i64 6]) ∧ Below w.heap.size w w' := by
  obtain ⟨h0, h1, h2, h3, h4, hx, hy⟩ := H
  go_enter Tryd.func64, Tryd.ntmps64
  go_wp2_with fail
  refine bodyPost_ret (v := .tuple #[.agg #[.string a, .string b, .int .i64 p, .bool true], .int .i64 6]) (by simp [results, Tryd.results64, go_sem]) rfl ⟨rfl, ?_⟩
  go_grown
theorem act1_full (f : Value) (a b : ByteArray) (p n : Int) (x y : Nat) (w : World) (H : Bx w x y a b p n false) (hn : 262144 < n) :
    Calls Tryd.prog 64 #[f, .pointer (some ⟨x, 0, none⟩), .pointer (some ⟨y, 0, none⟩)] w fun e w' => e = .returned (.tuple #[.agg #[.string a, .string b, .int .i64 p, .bool false], .int .i64 5]) ∧ Below w.heap.size w w' := by
  obtain ⟨h0, h1, h2, h3, h4, hx, hy⟩ := H
  go_enter Tryd.func64, Tryd.ntmps64
  go_wp2_with fail
  refine bodyPost_ret (v := .tuple #[.agg #[.string a, .string b, .int .i64 p, .bool false], .int .i64 5]) (by simp [results, Tryd.results64, go_sem]) rfl ⟨rfl, ?_⟩
  go_grown
theorem act1_dead (f : Value) (a b : ByteArray) (p n : Int) (x y : Nat) (w : World) (H : Bx w x y a b p n false) (hn : ¬ 262144 < n) (hp : p = 0) :
    Calls Tryd.prog 64 #[f, .pointer (some ⟨x, 0, none⟩), .pointer (some ⟨y, 0, none⟩)] w fun e w' => e = .returned (.tuple #[.agg #[.string a, .string b, .int .i64 0, .bool true], .int .i64 6]) ∧ Below w.heap.size w w' := by
  subst hp
  obtain ⟨h0, h1, h2, h3, h4, hx, hy⟩ := H
  go_enter Tryd.func64, Tryd.ntmps64
  go_wp2_with fail
  refine bodyPost_ret (v := .tuple #[.agg #[.string a, .string b, .int .i64 0, .bool true], .int .i64 6]) (by simp [results, Tryd.results64, go_sem]) rfl ⟨rfl, ?_⟩
  go_grown
/-- What power is left. -/
def left (p : Int) : Int := if 0 < p then p - 1 else p
theorem act1_install (z : Addr) (a b : ByteArray) (s : ByteArray) (p n : Int) (x y : Nat) (w : World) (H : Bx w x y a b p n false) (hn : ¬ 262144 < n) (hp : ¬ p = 0) (hP : p ≤ 9223372036854775807) (hz : w.cell? z = some (.string s)) (hb : z.block < w.heap.size) :
    Calls Tryd.prog 64 #[.func (.func 54) #[] #[.pointer (some z)], .pointer (some ⟨x, 0, none⟩), .pointer (some ⟨y, 0, none⟩)] w fun e w' => e = .returned (.tuple #[.agg #[.string s, .string ByteArray.empty, .int .i64 (left p), .bool false], .int .i64 0]) ∧ Below w.heap.size w w' := by
  obtain ⟨h0, h1, h2, h3, h4, hx, hy⟩ := H
  have hp2 : (p == 0) = false := by simpa using hp
  by_cases hq : 0 < p
  · have hl : left p = p - 1 := if_pos hq
    rw [hl]; clear hl
    go_enter Tryd.func64, Tryd.ntmps64
    go_wp2_with fail
    have hB : Below w.heap.size w ((w.alloc (.cells #[.string ⟨#[]⟩, .string ⟨#[]⟩, .int .i64 0, .bool false] 44)).alloc (.cells #[.string a, .string b, .int .i64 (p - 1), .bool false] 44)) := ((Below.refl _ w).alloc (Nat.le_refl _) _).alloc (by simp) _
    refine (install1_any a b s (p - 1) false z _ ((hB.cell hb).trans hz) (Nat.lt_of_lt_of_le hb hB.size)).mono ?_
    rintro e w1 ⟨rfl, hb1⟩
    obtain ⟨hc1, hf1⟩ := bcell hb1
    have hz1 : w.heap.size + 1 < w1.heap.size := by have := hb1.size; simp at this; omega
    have hz0 : w.heap.size < w1.heap.size := by omega
    have q0 : w1.cell? ⟨w.heap.size, 0, none⟩ = some (.string ⟨#[]⟩) := fresh2 rfl hc1 0
    have q1 : w1.cell? ⟨w.heap.size, 1, none⟩ = some (.string ⟨#[]⟩) := fresh2 rfl hc1 1
    have q2 : w1.cell? ⟨w.heap.size, 2, none⟩ = some (.int .i64 0) := fresh2 rfl hc1 2
    have q3 : w1.cell? ⟨w.heap.size, 3, none⟩ = some (.bool false) := fresh2 rfl hc1 3
    clear hc1
    go_wp2_with fail
    refine bodyPost_ret (v := .tuple #[.agg #[.string s, .string ByteArray.empty, .int .i64 (p - 1), .bool false], .int .i64 0]) (by simp [results, Tryd.results64, go_sem, q0, q1, q2, q3]) rfl ⟨rfl, ?_⟩
    exact ((((hB.trans (hb1.mono (by simp; omega))).setCell (by simp) _).setCell (by simp) _).setCell (by simp) _).setCell (by simp) _
  · have hl : left p = p := if_neg hq
    rw [hl]; clear hl
    go_enter Tryd.func64, Tryd.ntmps64
    go_wp2_with fail
    have hB : Below w.heap.size w ((w.alloc (.cells #[.string ⟨#[]⟩, .string ⟨#[]⟩, .int .i64 0, .bool false] 44)).alloc (.cells #[.string a, .string b, .int .i64 (p), .bool false] 44)) := ((Below.refl _ w).alloc (Nat.le_refl _) _).alloc (by simp) _
    refine (install1_any a b s p false z _ ((hB.cell hb).trans hz) (Nat.lt_of_lt_of_le hb hB.size)).mono ?_
    rintro e w1 ⟨rfl, hb1⟩
    obtain ⟨hc1, hf1⟩ := bcell hb1
    have hz1 : w.heap.size + 1 < w1.heap.size := by have := hb1.size; simp at this; omega
    have hz0 : w.heap.size < w1.heap.size := by omega
    have q0 : w1.cell? ⟨w.heap.size, 0, none⟩ = some (.string ⟨#[]⟩) := fresh2 rfl hc1 0
    have q1 : w1.cell? ⟨w.heap.size, 1, none⟩ = some (.string ⟨#[]⟩) := fresh2 rfl hc1 1
    have q2 : w1.cell? ⟨w.heap.size, 2, none⟩ = some (.int .i64 0) := fresh2 rfl hc1 2
    have q3 : w1.cell? ⟨w.heap.size, 3, none⟩ = some (.bool false) := fresh2 rfl hc1 3
    clear hc1
    go_wp2_with fail
    refine bodyPost_ret (v := .tuple #[.agg #[.string s, .string ByteArray.empty, .int .i64 (p), .bool false], .int .i64 0]) (by simp [results, Tryd.results64, go_sem, q0, q1, q2, q3]) rfl ⟨rfl, ?_⟩
    exact ((((hB.trans (hb1.mono (by simp; omega))).setCell (by simp) _).setCell (by simp) _).setCell (by simp) _).setCell (by simp) _

/-- What an act answers, as the machine's ending. -/
@[reducible] def outT (r : Tp × Int) : Ending := .returned (.tuple #[.agg #[.string r.1.a, .string r.1.b, .int .i64 r.1.p, .bool r.1.o], .int .i64 r.2])
theorem spent_left (a b : ByteArray) (p : Int) (o : Bool) : (Tp.mk a b p o).spent = ⟨a, b, left p, o⟩ := rfl
theorem act_i (z : Addr) (a b s : ByteArray) (p n : Int) (o : Bool) (x y : Nat) (w : World) (H : Bx w x y a b p n o) (hP : p ≤ 9223372036854775807) (hz : w.cell? z = some (.string s)) (hb : z.block < w.heap.size) (hn : n = (s.size : Nat)) :
    Calls Tryd.prog 64 #[.func (.func 54) #[] #[.pointer (some z)], .pointer (some ⟨x, 0, none⟩), .pointer (some ⟨y, 0, none⟩)] w fun e w' => e = outT (tInstall ⟨a, b, p, o⟩ s) ∧ Below w.heap.size w w' := by
  unfold tInstall
  cases o with
  | true => exact act1_off _ a b p n x y w H
  | false =>
    by_cases h1 : 262144 < s.size
    · simp only [if_pos h1]; exact act1_full _ a b p n x y w H (by omega)
    · by_cases h2 : p = 0
      · simp only [if_neg h1, if_pos h2]; rw [h2]; exact act1_dead _ a b p n x y w H (by omega) h2
      · simp only [if_neg h1, if_neg h2]; exact act1_install z a b s p n x y w H (by omega) h2 hP hz hb

theorem install_any (a b s : ByteArray) (p : Int) (o : Bool) (w : World) (hP : p ≤ 9223372036854775807) (_ : s.size ≤ 1125899906842624) :
    Calls Tryd.prog 34 #[.agg #[.string a, .string b, .int .i64 p, .bool o], .string s] w fun e w' => e = outT (tInstall ⟨a, b, p, o⟩ s) ∧ Below w.heap.size w w' := by
  have hmf := i_mf
  go_enter Tryd.func34, Tryd.ntmps34
  go_wp2_with fail
  refine (act_any a b p _ o _).mono ?_
  rintro e w1 ⟨rfl, rfl⟩
  go_wp2_with fail
  refine (act_i ⟨w.heap.size + 1, 0, none⟩ a b s p _ o (w.heap.size + 1 + 1 + 1) (w.heap.size + 1 + 1 + 1 + 1) _ ⟨by simp [go_sem], by simp [go_sem], by simp [go_sem], by simp [go_sem], by simp [go_sem], by simp, by simp⟩ hP (by simp [go_sem]) (by simp) rfl).mono ?_
  rintro e w1 ⟨rfl, hb1⟩
  obtain ⟨hc1, hf1⟩ := bcell hb1
  obtain ⟨r, hr⟩ : ∃ r, r = tInstall ⟨a, b, p, o⟩ s := ⟨_, rfl⟩
  rw [← hr]
  have HR := Lib.hid hr; clear hr
  have hz1 : w.heap.size + 1 + 1 < w1.heap.size := by have := hb1.size; simp at this; omega
  have q0 : w1.cell? ⟨w.heap.size + 1 + 1, 0, none⟩ = some (.string ⟨#[]⟩) := (hc1 _ _ (by simp)).trans (by simp [go_sem])
  have q1 : w1.cell? ⟨w.heap.size + 1 + 1, 1, none⟩ = some (.string ⟨#[]⟩) := (hc1 _ _ (by simp)).trans (by simp [go_sem])
  have q2 : w1.cell? ⟨w.heap.size + 1 + 1, 2, none⟩ = some (.int .i64 0) := (hc1 _ _ (by simp)).trans (by simp [go_sem])
  have q3 : w1.cell? ⟨w.heap.size + 1 + 1, 3, none⟩ = some (.bool false) := (hc1 _ _ (by simp)).trans (by simp [go_sem])
  clear hc1
  go_wp2_with fail
  refine bodyPost_ret (v := .tuple #[.agg #[.string r.1.a, .string r.1.b, .int .i64 r.1.p, .bool r.1.o], .int .i64 r.2]) (by simp [results, Tryd.results34, go_sem, q0, q1, q2, q3]) rfl ⟨by rw [← HR.out], ?_⟩
  refine ((((Below.trans ?_ (hb1.mono (by simp; omega))).setCell (by show w.heap.size ≤ w.heap.size + 1 + 1; omega) _).setCell (by show w.heap.size ≤ w.heap.size + 1 + 1; omega) _).setCell (by show w.heap.size ≤ w.heap.size + 1 + 1; omega) _).setCell (by show w.heap.size ≤ w.heap.size + 1 + 1; omega) _
  go_grown

theorem read_any (a b : ByteArray) (p : Int) (o : Bool) (w : World) (hs : a.size + b.size ≤ 1125899906842624) : Calls Tryd.prog 36 #[.agg #[.string a, .string b, .int .i64 p, .bool o]] w fun e w' =>
    e = .returned (.tuple #[.string (tRead ⟨a, b, p, o⟩).1, .int .i64 (tRead ⟨a, b, p, o⟩).2]) ∧ Below w.heap.size w w' := by
  unfold tRead
  cases o with
  | true =>
    go_enter Tryd.func36, Tryd.ntmps36
    go_wp2_with fail
    go_ret2
    exact ⟨rfl, (Below.refl _ _).alloc (Nat.le_refl _) _⟩
  | false =>
    go_enter Tryd.func36, Tryd.ntmps36
    go_wp2_with fail
    refine (contents_any a b p false hs _).mono ?_
    rintro e w1 ⟨rfl, hb1⟩
    go_wp2_with fail
    go_ret2
    exact ⟨rfl, ((Below.refl _ _).alloc (Nat.le_refl _) _).trans (hb1.mono (by simp))⟩

end Go.Proofs.YtjbhnkigbobhiaaDoor
/- A variable of type tape in a box (where a seat has Install and Read alone). -/
namespace Go.Proofs.YtjbhnkigbobhiaaDoor
open Go.RowKit

theorem four_far {w1 : World} {x y : Nat} (hne : x ≠ y) (i : Nat) (v0 v1 v2 v3 : Value) : ((((w1.setCell ⟨x, 0, none⟩ v0).setCell ⟨x, 1, none⟩ v1).setCell ⟨x, 2, none⟩ v2).setCell ⟨x, 3, none⟩ v3).cell? ⟨y, i, none⟩ = w1.cell? ⟨y, i, none⟩ := by
  rw [World.cell?_setCell_far _ _ _ _ hne, World.cell?_setCell_far _ _ _ _ hne, World.cell?_setCell_far _ _ _ _ hne, World.cell?_setCell_far _ _ _ _ hne]
/-- Four cells of a block written. -/
def set4 (w : World) (x : Nat) (v0 v1 v2 v3 : Value) : World := (((w.setCell ⟨x, 0, none⟩ v0).setCell ⟨x, 1, none⟩ v1).setCell ⟨x, 2, none⟩ v2).setCell ⟨x, 3, none⟩ v3
theorem set4_far {w1 : World} {x y : Nat} (hne : x ≠ y) (i : Nat) (v0 v1 v2 v3 : Value) : (set4 w1 x v0 v1 v2 v3).cell? ⟨y, i, none⟩ = w1.cell? ⟨y, i, none⟩ := four_far hne i v0 v1 v2 v3
theorem set4_at {w1 : World} {x : Nat} {u0 u1 u2 u3 v0 v1 v2 v3 : Value} (h0 : w1.cell? ⟨x, 0, none⟩ = some u0) (h1 : w1.cell? ⟨x, 1, none⟩ = some u1) (h2 : w1.cell? ⟨x, 2, none⟩ = some u2) (h3 : w1.cell? ⟨x, 3, none⟩ = some u3) :
    (set4 w1 x v0 v1 v2 v3).cell? ⟨x, 0, none⟩ = some v0 ∧ (set4 w1 x v0 v1 v2 v3).cell? ⟨x, 1, none⟩ = some v1 ∧ (set4 w1 x v0 v1 v2 v3).cell? ⟨x, 2, none⟩ = some v2 ∧ (set4 w1 x v0 v1 v2 v3).cell? ⟨x, 3, none⟩ = some v3 := by
  unfold set4; refine ⟨?_, ?_, ?_, ?_⟩ <;> simp [go_sem, h0, h1, h2, h3]
theorem set4_frozen {w1 : World} {x : Nat} {v0 v1 v2 v3 : Value} (p : Addr) : (set4 w1 x v0 v1 v2 v3).frozen? p = w1.frozen? p := by unfold set4; simp
theorem set4_size {w1 : World} {x : Nat} {v0 v1 v2 v3 : Value} : (set4 w1 x v0 v1 v2 v3).heap.size = w1.heap.size := by unfold set4; simp
theorem set4_below {w w1 : World} {B x : Nat} {v0 v1 v2 v3 : Value} (h : Below B w w1) (hx : B ≤ x) : Below B w (set4 w1 x v0 v1 v2 v3) := (((h.setCell hx _).setCell hx _).setCell hx _).setCell hx _

/-- A tape in block x. -/
structure Tb (w : World) (x : Nat) (a b : ByteArray) (p : Int) (o : Bool) : Prop where
  h0 : w.cell? ⟨x, 0, none⟩ = some (.string a)
  h1 : w.cell? ⟨x, 1, none⟩ = some (.string b)
  h2 : w.cell? ⟨x, 2, none⟩ = some (.int .i64 p)
  h3 : w.cell? ⟨x, 3, none⟩ = some (.bool o)
  fz : ∀ i, w.frozen? ⟨x, i, none⟩ = false
  hx : x < w.heap.size
theorem Tb.new (w : World) (x : Nat) (hx : x = w.heap.size) (t : TypeId) (a b : ByteArray) (p : Int) (o : Bool) : Tb (w.alloc (.cells #[.string a, .string b, .int .i64 p, .bool o] t)) x a b p o := by
  subst hx
  exact ⟨by simp, by simp, by simp, by simp, fun i => by simp, by simp⟩
theorem Tb.later {w w' : World} {x : Nat} {a b : ByteArray} {p : Int} {o : Bool} (T : Tb w x a b p o) (h : Below w.heap.size w w') : Tb w' x a b p o :=
  ⟨(h.cell (p := ⟨x, 0, none⟩) T.hx).trans T.h0, (h.cell (p := ⟨x, 1, none⟩) T.hx).trans T.h1, (h.cell (p := ⟨x, 2, none⟩) T.hx).trans T.h2, (h.cell (p := ⟨x, 3, none⟩) T.hx).trans T.h3, fun i => (h.frozen (p := ⟨x, i, none⟩) T.hx).trans (T.fz i), Nat.lt_of_lt_of_le T.hx h.size⟩
theorem Tb.past {w : World} {x : Nat} {a b : ByteArray} {p : Int} {o : Bool} (T : Tb w x a b p o) (ob : Obj) : Tb (w.alloc ob) x a b p o := T.later ((Below.refl _ _).alloc (Nat.le_refl _) _)
theorem Tb.set {w : World} {x : Nat} {a b : ByteArray} {p : Int} {o : Bool} (T : Tb w x a b p o) (a' b' : ByteArray) (p' : Int) (o' : Bool) : Tb (set4 w x (.string a') (.string b') (.int .i64 p') (.bool o')) x a' b' p' o' := by
  obtain ⟨g0, g1, g2, g3⟩ := set4_at (v0 := .string a') (v1 := .string b') (v2 := .int .i64 p') (v3 := .bool o') T.h0 T.h1 T.h2 T.h3
  exact ⟨g0, g1, g2, g3, fun i => by rw [set4_frozen]; exact T.fz i, by rw [set4_size]; exact T.hx⟩
theorem Tb.far {w : World} {x y : Nat} {a b : ByteArray} {p : Int} {o : Bool} (T : Tb w x a b p o) (hne : y ≠ x) (v0 v1 v2 v3 : Value) : Tb (set4 w y v0 v1 v2 v3) x a b p o :=
  ⟨(set4_far hne _ _ _ _ _).trans T.h0, (set4_far hne _ _ _ _ _).trans T.h1, (set4_far hne _ _ _ _ _).trans T.h2, (set4_far hne _ _ _ _ _).trans T.h3, fun i => by rw [set4_frozen]; exact T.fz i, by rw [set4_size]; exact T.hx⟩
end Go.Proofs.YtjbhnkigbobhiaaDoor
