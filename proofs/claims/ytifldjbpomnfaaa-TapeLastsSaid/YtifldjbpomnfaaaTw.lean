/- Layer 3: Write, Sync, Install: whatever tape there is. -/
import Derived.Test.YtifldjbpomnfaaaTq
namespace Go.Proofs.Ytifldjbpomnfaaa
open Go.RowKit

/-- What an act answers, as the machine's ending. -/
@[reducible] def outT (r : Tp × Int) : Ending := .returned (.tuple #[.agg #[.string r.1.a, .string r.1.b, .int .i64 r.1.p, .bool r.1.o], .int .i64 r.2])
theorem spent_left (a b : ByteArray) (p : Int) (o : Bool) : (Tp.mk a b p o).spent = ⟨a, b, left p, o⟩ := rfl
theorem act_w (z : Addr) (a b s : ByteArray) (p n : Int) (o : Bool) (x y : Nat) (w : World) (H : Bx w x y a b p n o) (hP : p ≤ 9223372036854775807) (hz : w.cell? z = some (.string s)) (hb : z.block < w.heap.size) (hs : b.size + s.size ≤ 1125899906842624) (hn : n = (a.size + b.size + s.size : Nat)) :
    Calls Try.prog 28 #[.func (.func 22) #[] #[.pointer (some z)], .pointer (some ⟨x, 0, none⟩), .pointer (some ⟨y, 0, none⟩)] w fun e w' => e = outT (tWrite ⟨a, b, p, o⟩ s) ∧ Below w.heap.size w w' := by
  unfold tWrite
  cases o with
  | true => exact act1_off _ a b p n x y w H
  | false =>
    by_cases h1 : 262144 < a.size + b.size + s.size
    · simp only [if_pos h1]; exact act1_full _ a b p n x y w H (by omega)
    · by_cases h2 : p = 0
      · simp only [if_neg h1, if_pos h2]; rw [h2]; exact act1_dead _ a b p n x y w H (by omega) h2
      · simp only [if_neg h1, if_neg h2]; exact act1_write z a b s p n x y w H (by omega) h2 hP hz hb hs
theorem act_s (a b : ByteArray) (p n : Int) (o : Bool) (x y : Nat) (w : World) (H : Bx w x y a b p n o) (hP : p ≤ 9223372036854775807) (hs : a.size + b.size ≤ 1125899906842624) (hn : n = 0) :
    Calls Try.prog 28 #[.func (.func 24) #[] #[], .pointer (some ⟨x, 0, none⟩), .pointer (some ⟨y, 0, none⟩)] w fun e w' => e = outT (tSync ⟨a, b, p, o⟩) ∧ Below w.heap.size w w' := by
  unfold tSync
  cases o with
  | true => exact act1_off _ a b p n x y w H
  | false =>
    by_cases h2 : p = 0
    · simp only [if_pos h2]; rw [h2]; exact act1_dead _ a b p n x y w H (by omega) h2
    · simp only [if_neg h2]; exact act1_sync a b p n x y w H (by omega) h2 hP hs
theorem act_i (z : Addr) (a b s : ByteArray) (p n : Int) (o : Bool) (x y : Nat) (w : World) (H : Bx w x y a b p n o) (hP : p ≤ 9223372036854775807) (hz : w.cell? z = some (.string s)) (hb : z.block < w.heap.size) (hn : n = (s.size : Nat)) :
    Calls Try.prog 28 #[.func (.func 27) #[] #[.pointer (some z)], .pointer (some ⟨x, 0, none⟩), .pointer (some ⟨y, 0, none⟩)] w fun e w' => e = outT (tInstall ⟨a, b, p, o⟩ s) ∧ Below w.heap.size w w' := by
  unfold tInstall
  cases o with
  | true => exact act1_off _ a b p n x y w H
  | false =>
    by_cases h1 : 262144 < s.size
    · simp only [if_pos h1]; exact act1_full _ a b p n x y w H (by omega)
    · by_cases h2 : p = 0
      · simp only [if_neg h1, if_pos h2]; rw [h2]; exact act1_dead _ a b p n x y w H (by omega) h2
      · simp only [if_neg h1, if_neg h2]; exact act1_install z a b s p n x y w H (by omega) h2 hP hz hb

theorem write_any (a b s : ByteArray) (p : Int) (o : Bool) (w : World) (hP : p ≤ 9223372036854775807) (hs : a.size + b.size + s.size ≤ 1125899906842624) :
    Calls Try.prog 10 #[.agg #[.string a, .string b, .int .i64 p, .bool o], .string s] w fun e w' => e = outT (tWrite ⟨a, b, p, o⟩ s) ∧ Below w.heap.size w w' := by
  have hmf := i_mf
  go_enter Try.func10, Try.ntmps10
  go_wp2_with fail
  refine (act_any a b p _ o _).mono ?_
  rintro e w1 ⟨rfl, rfl⟩
  go_wp2_with fail
  refine (act_w ⟨w.heap.size + 1, 0, none⟩ a b s p ((a.size : Int) + b.size + s.size) o (w.heap.size + 1 + 1 + 1) (w.heap.size + 1 + 1 + 1 + 1) _ ⟨by simp [go_sem], by simp [go_sem], by simp [go_sem], by simp [go_sem], by simp [go_sem], by simp, by simp⟩ hP (by simp [go_sem]) (by simp) (by omega) (by simp)).mono ?_
  rintro e w1 ⟨rfl, hb1⟩
  obtain ⟨hc1, hf1⟩ := bcell hb1
  obtain ⟨r, hr⟩ : ∃ r, r = tWrite ⟨a, b, p, o⟩ s := ⟨_, rfl⟩
  rw [← hr]
  have HR := Lib.hid hr; clear hr
  have hz1 : w.heap.size + 1 + 1 < w1.heap.size := by have := hb1.size; simp at this; omega
  have q0 : w1.cell? ⟨w.heap.size + 1 + 1, 0, none⟩ = some (.string ⟨#[]⟩) := (hc1 _ _ (by simp)).trans (by simp [go_sem])
  have q1 : w1.cell? ⟨w.heap.size + 1 + 1, 1, none⟩ = some (.string ⟨#[]⟩) := (hc1 _ _ (by simp)).trans (by simp [go_sem])
  have q2 : w1.cell? ⟨w.heap.size + 1 + 1, 2, none⟩ = some (.int .i64 0) := (hc1 _ _ (by simp)).trans (by simp [go_sem])
  have q3 : w1.cell? ⟨w.heap.size + 1 + 1, 3, none⟩ = some (.bool false) := (hc1 _ _ (by simp)).trans (by simp [go_sem])
  clear hc1
  go_wp2_with fail
  refine bodyPost_ret (v := .tuple #[.agg #[.string r.1.a, .string r.1.b, .int .i64 r.1.p, .bool r.1.o], .int .i64 r.2]) (by simp [results, Try.results10, go_sem, q0, q1, q2, q3]) rfl ⟨by rw [← HR.out], ?_⟩
  refine ((((Below.trans ?_ (hb1.mono (by simp; omega))).setCell (by show w.heap.size ≤ w.heap.size + 1 + 1; omega) _).setCell (by show w.heap.size ≤ w.heap.size + 1 + 1; omega) _).setCell (by show w.heap.size ≤ w.heap.size + 1 + 1; omega) _).setCell (by show w.heap.size ≤ w.heap.size + 1 + 1; omega) _
  go_grown
theorem sync_any (a b : ByteArray) (p : Int) (o : Bool) (w : World) (hP : p ≤ 9223372036854775807) (hs : a.size + b.size ≤ 1125899906842624) :
    Calls Try.prog 12 #[.agg #[.string a, .string b, .int .i64 p, .bool o]] w fun e w' => e = outT (tSync ⟨a, b, p, o⟩) ∧ Below w.heap.size w w' := by
  have hmf := i_mf
  go_enter Try.func12, Try.ntmps12
  go_wp2_with fail
  refine (act_any a b p _ o _).mono ?_
  rintro e w1 ⟨rfl, rfl⟩
  go_wp2_with fail
  refine (act_s a b p _ o (w.heap.size + 1 + 1) (w.heap.size + 1 + 1 + 1) _ ⟨by simp [go_sem], by simp [go_sem], by simp [go_sem], by simp [go_sem], by simp [go_sem], by simp, by simp⟩ hP hs rfl).mono ?_
  rintro e w1 ⟨rfl, hb1⟩
  obtain ⟨hc1, hf1⟩ := bcell hb1
  obtain ⟨r, hr⟩ : ∃ r, r = tSync ⟨a, b, p, o⟩ := ⟨_, rfl⟩
  rw [← hr]
  have HR := Lib.hid hr; clear hr
  have hz1 : w.heap.size + 1 < w1.heap.size := by have := hb1.size; simp at this; omega
  have q0 : w1.cell? ⟨w.heap.size + 1, 0, none⟩ = some (.string ⟨#[]⟩) := (hc1 _ _ (by simp)).trans (by simp [go_sem])
  have q1 : w1.cell? ⟨w.heap.size + 1, 1, none⟩ = some (.string ⟨#[]⟩) := (hc1 _ _ (by simp)).trans (by simp [go_sem])
  have q2 : w1.cell? ⟨w.heap.size + 1, 2, none⟩ = some (.int .i64 0) := (hc1 _ _ (by simp)).trans (by simp [go_sem])
  have q3 : w1.cell? ⟨w.heap.size + 1, 3, none⟩ = some (.bool false) := (hc1 _ _ (by simp)).trans (by simp [go_sem])
  clear hc1
  go_wp2_with fail
  refine bodyPost_ret (v := .tuple #[.agg #[.string r.1.a, .string r.1.b, .int .i64 r.1.p, .bool r.1.o], .int .i64 r.2]) (by simp [results, Try.results12, go_sem, q0, q1, q2, q3]) rfl ⟨by rw [← HR.out], ?_⟩
  refine ((((Below.trans ?_ (hb1.mono (by simp; omega))).setCell (by show w.heap.size ≤ w.heap.size + 1; omega) _).setCell (by show w.heap.size ≤ w.heap.size + 1; omega) _).setCell (by show w.heap.size ≤ w.heap.size + 1; omega) _).setCell (by show w.heap.size ≤ w.heap.size + 1; omega) _
  go_grown
theorem install_any (a b s : ByteArray) (p : Int) (o : Bool) (w : World) (hP : p ≤ 9223372036854775807) (_ : s.size ≤ 1125899906842624) :
    Calls Try.prog 14 #[.agg #[.string a, .string b, .int .i64 p, .bool o], .string s] w fun e w' => e = outT (tInstall ⟨a, b, p, o⟩ s) ∧ Below w.heap.size w w' := by
  have hmf := i_mf
  go_enter Try.func14, Try.ntmps14
  go_wp2_with fail
  refine (act_any a b p _ o _).mono ?_
  rintro e w1 ⟨rfl, rfl⟩
  go_wp2_with fail
  refine (act_i ⟨w.heap.size + 1, 0, none⟩ a b s p _ o (w.heap.size + 1 + 1 + 1) (w.heap.size + 1 + 1 + 1 + 1) _ ⟨by simp [go_sem], by simp [go_sem], by simp [go_sem], by simp [go_sem], by simp [go_sem], by simp, by simp⟩ hP (by simp [go_sem]) (by simp) rfl).mono ?_
  rintro e w1 ⟨rfl, hb1⟩
  obtain ⟨hc1, hf1⟩ := bcell hb1
  obtain ⟨r, hr⟩ : ∃ r, r = tInstall ⟨a, b, p, o⟩ s := ⟨_, rfl⟩
  rw [← hr]
  have HR := Lib.hid hr; clear hr
  have hz1 : w.heap.size + 1 + 1 < w1.heap.size := by have := hb1.size; simp at this; omega
  have q0 : w1.cell? ⟨w.heap.size + 1 + 1, 0, none⟩ = some (.string ⟨#[]⟩) := (hc1 _ _ (by simp)).trans (by simp [go_sem])
  have q1 : w1.cell? ⟨w.heap.size + 1 + 1, 1, none⟩ = some (.string ⟨#[]⟩) := (hc1 _ _ (by simp)).trans (by simp [go_sem])
  have q2 : w1.cell? ⟨w.heap.size + 1 + 1, 2, none⟩ = some (.int .i64 0) := (hc1 _ _ (by simp)).trans (by simp [go_sem])
  have q3 : w1.cell? ⟨w.heap.size + 1 + 1, 3, none⟩ = some (.bool false) := (hc1 _ _ (by simp)).trans (by simp [go_sem])
  clear hc1
  go_wp2_with fail
  refine bodyPost_ret (v := .tuple #[.agg #[.string r.1.a, .string r.1.b, .int .i64 r.1.p, .bool r.1.o], .int .i64 r.2]) (by simp [results, Try.results14, go_sem, q0, q1, q2, q3]) rfl ⟨by rw [← HR.out], ?_⟩
  refine ((((Below.trans ?_ (hb1.mono (by simp; omega))).setCell (by show w.heap.size ≤ w.heap.size + 1 + 1; omega) _).setCell (by show w.heap.size ≤ w.heap.size + 1 + 1; omega) _).setCell (by show w.heap.size ≤ w.heap.size + 1 + 1; omega) _).setCell (by show w.heap.size ≤ w.heap.size + 1 + 1; omega) _
  go_grown
end Go.Proofs.Ytifldjbpomnfaaa
