/- Layer 3 in plain words, and its small functions: contents, settled. -/
import Derived.Test.YtifldjbpomnfaaaRows
import Derived.WalkKit
import Derived.Handy
import Derived.WalkSpells
import Derived.WalkLawsBesides
import Derived.Deep.QuietTactic
import Derived.Deep.RegionWith
import Derived.BigQuiet
import Derived.Lib.Hide
import Derived.Deep.Draws
import Derived.Laws.StructEq
namespace Go.Proofs.Ytifldjbpomnfaaa
open Go.RowKit

/-- A tape: what lasts, what isn't synced, for how many acts there is power, whether it is without. -/
structure Tp where
  a : ByteArray
  b : ByteArray
  p : Int
  o : Bool
/-- An act that is done on a tape that isn't off, and has room for it. -/
def Tp.spent (t : Tp) : Tp := { t with p := if 0 < t.p then t.p - 1 else t.p }
def tWrite (t : Tp) (s : ByteArray) : Tp × Int :=
  if t.o then (t, 6) else if 262144 < t.a.size + t.b.size + s.size then (t, 5) else if t.p = 0 then ({ t with o := true }, 6) else ({ t.spent with b := t.b ++ s }, 0)
def tSync (t : Tp) : Tp × Int :=
  if t.o then (t, 6) else if t.p = 0 then ({ t with o := true }, 6) else ({ t.spent with a := t.a ++ t.b, b := ByteArray.empty }, 0)
def tInstall (t : Tp) (s : ByteArray) : Tp × Int :=
  if t.o then (t, 6) else if 262144 < s.size then (t, 5) else if t.p = 0 then ({ t with o := true }, 6) else ({ t.spent with a := s, b := ByteArray.empty }, 0)
def tRead (t : Tp) : ByteArray × Int := if t.o then (ByteArray.empty, 6) else (t.a ++ t.b, 0)
def tCrash (t : Tp) (k : Int) : Tp := ⟨t.a ++ t.b.extract 0 (min k.toNat t.b.size), ByteArray.empty, -1, false⟩
def tPower (t : Tp) (n : Int) : Tp := { t with p := if n < 0 then -1 else n }
theorem emp : ({ data := #[] } : ByteArray) = ByteArray.empty := rfl

theorem bcell {W w1 : World} (hb : Below W.heap.size W w1) : (∀ b o, b < W.heap.size → w1.cell? ⟨b, o, none⟩ = W.cell? ⟨b, o, none⟩) ∧ (∀ b o, b < W.heap.size → w1.frozen? ⟨b, o, none⟩ = W.frozen? ⟨b, o, none⟩) :=
  ⟨fun b o h => hb.cell (p := ⟨b, o, none⟩) h, fun b o h => hb.frozen (p := ⟨b, o, none⟩) h⟩

theorem fresh2 {w w1 : World} {c : Array Value} {t : TypeId} {o : Obj} {m : Nat} (hm : m = w.heap.size) (hc : ∀ b i, b < ((w.alloc (.cells c t)).alloc o).heap.size → w1.cell? ⟨b, i, none⟩ = ((w.alloc (.cells c t)).alloc o).cell? ⟨b, i, none⟩) (i : Nat) : w1.cell? ⟨m, i, none⟩ = c[i]? := by
  subst hm
  exact (hc _ _ (by simp; omega)).trans ((World.cell?_alloc_past _ _ _ (by simp)).trans (World.cell?_alloc_at _ _ _ _ rfl))

theorem contents_any (a b : ByteArray) (p : Int) (o : Bool) (hs : a.size + b.size ≤ 1125899906842624) (w : World) : Calls Try.prog 26 #[.agg #[.string a, .string b, .int .i64 p, .bool o]] w fun e w' => e = .returned (.string (a ++ b)) ∧ Below w.heap.size w w' := by
  go_enter Try.func26, Try.ntmps26
  go_wp2_with fail
  go_ret
  exact ⟨rfl, (Below.refl _ _).alloc (Nat.le_refl _) _⟩

theorem settled_any (a b s : ByteArray) (p : Int) (o : Bool) (w : World) : Calls Try.prog 25 #[.agg #[.string a, .string b, .int .i64 p, .bool o], .string s] w fun e w' => e = .returned (.agg #[.string s, .string ByteArray.empty, .int .i64 p, .bool o]) ∧ Below w.heap.size w w' := by
  go_enter Try.func25, Try.ntmps25
  go_wp2_with fail
  refine bodyPost_ret (v := .agg #[.string s, .string ByteArray.empty, .int .i64 p, .bool o]) (by simp [results, Try.results25, go_sem, emp]) rfl ⟨rfl, ?_⟩
  go_grown

theorem i_mf (fn : Fn) (first cap : Array Value) (w : World) : (Instr.makeFunc fn first cap).run Try.prog w = .ok (.func fn first cap) w := rfl
/-- The closure of an act: the tape in one box, the room in another. -/
theorem act_any (a b : ByteArray) (p n : Int) (o : Bool) (w : World) : Calls Try.prog 21 #[.agg #[.string a, .string b, .int .i64 p, .bool o], .int .i64 n] w fun e w' =>
    e = .returned (.func (.func 28) #[] #[.pointer (some ⟨w.heap.size, 0, none⟩), .pointer (some ⟨w.heap.size + 1, 0, none⟩)]) ∧ w' = (w.alloc (.cells #[.string a, .string b, .int .i64 p, .bool o] 23)).alloc (.cells #[.int .i64 n] 3) := by
  have hmf := i_mf
  go_enter Try.func21, Try.ntmps21
  go_wp2_with fail
  go_ret
  exact ⟨rfl, rfl⟩
theorem write1_any (a b s : ByteArray) (p : Int) (o : Bool) (x : Addr) (w : World) (hx : w.cell? x = some (.string s)) (hb : x.block < w.heap.size) (hs : b.size + s.size ≤ 1125899906842624) : Calls Try.prog 22 #[.agg #[.string a, .string b, .int .i64 p, .bool o], .pointer (some x)] w fun e w' =>
    e = .returned (.agg #[.string a, .string (b ++ s), .int .i64 p, .bool o]) ∧ Below w.heap.size w w' := by
  go_enter Try.func22, Try.ntmps22
  go_wp2_with fail
  refine bodyPost_ret (v := .agg #[.string a, .string (b ++ s), .int .i64 p, .bool o]) (by simp [results, Try.results22, go_sem]) rfl ⟨rfl, ?_⟩
  go_grown
theorem sync1_any (a b : ByteArray) (p : Int) (o : Bool) (w : World) (hs : a.size + b.size ≤ 1125899906842624) : Calls Try.prog 24 #[.agg #[.string a, .string b, .int .i64 p, .bool o]] w fun e w' =>
    e = .returned (.agg #[.string (a ++ b), .string ByteArray.empty, .int .i64 p, .bool o]) ∧ Below w.heap.size w w' := by
  go_enter Try.func24, Try.ntmps24
  go_wp2_with fail
  go_region_with (first | (go_at_call 26; refine (contents_any a b p o hs _).mono ?_; rintro e w1 ⟨rfl, hb1⟩; obtain ⟨hc1, hf1⟩ := bcell hb1; have hz1 : w.heap.size + 1 < w1.heap.size := (by have := hb1.size; simp at this; omega)) | (go_at_call 25; refine (settled_any a b (a ++ b) p o _).mono ?_; rintro e w2 ⟨rfl, hb2⟩; obtain ⟨hc2, hf2⟩ := bcell hb2; have hz2 : w.heap.size + 1 < w2.heap.size := (by have := hb2.size; omega)))
  all_goals go_wp2_with fail
  all_goals
    refine bodyPost_ret (v := .agg #[.string (a ++ b), .string ByteArray.empty, .int .i64 p, .bool o]) (by simp [results, Try.results24, go_sem, hc1, hc2, hz1]) rfl ⟨rfl, ?_⟩
    exact (((((((Below.refl _ w).alloc (Nat.le_refl _) _).alloc (by simp) _).drew.trans (hb1.mono (by simp; omega))).trans (hb2.mono (by omega))).setCell (by simp) _).setCell (by simp) _ |>.setCell (by simp) _).setCell (by simp) _
end Go.Proofs.Ytifldjbpomnfaaa
