/- append on numbers and on marks; slices.Clone. -/
import Derived.Test.YtoabpakichjieaaGa
import Derived.Deep.Upon
import Derived.Deep.AppendLies
import Derived.Lib.AppendZeros
import Derived.Lib.SliceRun
namespace Go.Proofs.Ytoabpakichjieaa
open Go.RowKit

theorem owns_mono' {w : World} {B B' : Nat} {e : TypeId} {size : Nat} {v : Value} {n : Nat} {xs : List Value} (h : w.ownsRow B e size v n xs) (hB : B' ≤ B) : w.ownsRow B' e size v n xs := by
  refine ⟨h.1, ?_⟩
  rcases h.2 with h2 | ⟨g, cap, cur, e1, e2, rest⟩
  · exact .inl h2
  · exact .inr ⟨g, cap, cur, e1, Nat.le_trans hB e2, rest⟩
theorem us_of_owns' {w : World} {B : Nat} {v : Value} {L : List Nat} (h : w.ownsRow B 22 1 v L.length (usCells L)) : ∃ a cap, v = .slice a L.length cap ∧ Us w a L ∧ ∀ q, a = some q → B ≤ q.block := by
  obtain ⟨a, cap, e, _, h1, h2⟩ := us_of_owns h
  exact ⟨a, cap, e, h1, h2⟩
theorem ms_of_owns' {w : World} {B : Nat} {v : Value} {L : List Mk} (h : w.ownsRow B 42 2 v L.length (msCells L)) : ∃ a cap, v = .slice a L.length cap ∧ Ms w a L ∧ ∀ q, a = some q → B ≤ q.block := ms_of_owns h
theorem msCells_app (L M : List Mk) : msCells (L ++ M) = msCells L ++ msCells M := by simp [msCells]
/-- A row that is being laid: nothing in it (nil, or just begun), or what the call itself has laid. -/
def CqU (B : Nat) (w : World) (v : Value) (L : List Nat) : Prop := (L = [] ∧ ∃ ao, v = .slice ao 0 0) ∨ w.ownsRow B 22 1 v L.length (usCells L)
theorem CqU.later {B : Nat} {w w' : World} {v : Value} {L : List Nat} (h : CqU B w v L) (hb : Below w.heap.size w w') : CqU B w' v L := by
  rcases h with h | h
  · exact .inl h
  · refine .inr (h.kept ⟨hb.os, hb.tape, hb.output, hb.size, fun k hk _ => hb.block k hk⟩ (row := none) ?_)
    rcases h1 : v.ownBlock with _ | g
    · exact .inl rfl
    · exact .inr (by simp)
theorem CqU.nil (B : Nat) (w : World) (ao : Option Addr) : CqU B w (.slice ao 0 0) [] := .inl ⟨rfl, ao, rfl⟩
theorem CqU.mono {B B' : Nat} {w : World} {v : Value} {L : List Nat} (h : CqU B w v L) (hB : B' ≤ B) : CqU B' w v L := h.imp id fun h => owns_mono' h hB
/-- Its form: a slice; what it holds is there; its block is the call's own, or there is none in it. -/
theorem CqU.form {B : Nat} {w : World} {v : Value} {L : List Nat} (h : CqU B w v L) : ∃ a c, v = .slice a L.length c ∧ Us w a L ∧ (0 < L.length → ∀ q, a = some q → B ≤ q.block) ∧ L.length ≤ c ∧ c ≤ maxLen := by
  rcases h with ⟨rfl, ao, rfl⟩ | h
  · exact ⟨ao, 0, rfl, fun j x hx => by simp at hx, fun h => by simp at h, Nat.le_refl _, by decide⟩
  · obtain ⟨a, c, e, hE, hf⟩ := us_of_owns' h
    refine ⟨a, c, e, hE, fun _ => hf, ?_⟩
    rcases h.2 with ⟨e2, h0⟩ | ⟨g, cap, cur, e2, _, _, hn, hm, _⟩
    · injection e2.symm.trans e with _ _ h3
      subst h3; exact ⟨by omega, by decide⟩
    · injection e2.symm.trans e with _ _ h3
      subst h3; exact ⟨hn, hm⟩
/-- append(row, list...). -/
theorem appU (B : Nat) (w : World) (ty : TypeId) (v : Value) (L : List Nat) (h : CqU B w v L) (a : Option Addr) (m c : Nat) (M : List Nat) (hm : M.length = m) (hM : Us w a M) (hl : (L.length + m) * 8 ≤ 140737488355328) (hB : B ≤ w.heap.size) :
    ∃ v' w', (Builtin.append_ #[27, 27] ty #[v, .slice a m c]).run Try.prog w = .ok v' w' ∧ (CqU B w' v' (L ++ M) ∧ Below B w w') := by
  obtain ⟨i0, hi, hz0, hz1', hz2'⟩ := info_parts infoU64
  rcases Nat.eq_zero_or_pos m with h0 | h0
  · subst h0
    have hM0 : M = [] := List.length_eq_zero_iff.1 hm
    subst hM0
    rw [List.append_nil]
    have hs : Src Try.prog i0.size 27 (.slice a 0 c) 0 [] w := by
      cases a with
      | none => exact Src.ofNil w Try.underlying27 c
      | some p => exact Src.ofSlice w Try.underlying27 p 0 c [] (by simp) (by simp) (by simp)
    have hv : ∃ ao n cap, v = .slice ao n cap ∧ n ≤ cap := by
      rcases h with ⟨_, ao, rfl⟩ | h
      · exact ⟨ao, 0, 0, rfl, Nat.le_refl _⟩
      · rcases h.2 with ⟨rfl, h0⟩ | ⟨g, cap, cur, rfl, _, _, hn, _⟩
        · exact ⟨none, 0, 0, rfl, Nat.le_refl _⟩
        · exact ⟨_, _, cap, rfl, hn⟩
    obtain ⟨ao, n, cap, rfl, hle⟩ := hv
    exact ⟨_, _, run_append_nothing w _ _ ty _ i0 Try.underlying27 hi ao n cap hle _ hs, h, Below.refl _ _⟩
  · obtain ⟨b1, off, rfl, hb1⟩ := hM.addr (by omega)
    have hrow := us_row hM
    have hnews : ∀ j u, (usCells M)[j]? = some u → w.cell? ((⟨b1, off, none⟩ : Addr).add j) = some u := fun j u hj => by rw [addAny]; exact hrow j u hj
    have hlen : (usCells M).length = m * 1 := by rw [usCells_len, hm]; omega
    rcases h with ⟨rfl, ao, rfl⟩ | h
    · cases ao with
      | none =>
        obtain ⟨v', w', hr, hown, hg, _⟩ := run_append_own (P := Try.prog) w B 27 ty 22 i0 _ 1 8 Try.underlying27 hi hz0 hz1' hz2' rfl (by decide) (.slice none 0 0) 0 [] (World.ownsRow_nil w B _ 1) ⟨b1, off, none⟩ m c (usCells M) hlen hnews (oneUs M) (by unfold maxLen; simp at hl; omega) (by simpa using hl) hB
        refine ⟨v', w', hr, .inr ?_, (Below.refl _ _).grown hg hB (by simp [Value.ownBlock])⟩
        simpa [hm] using hown
      | some b =>
        obtain ⟨v', w', hr, hown, hg⟩ := run_append_arg_grows (P := Try.prog) w 27 ty 22 i0 _ 1 8 Try.underlying27 hi hz0 hz1' hz2' rfl (by decide) b 0 0 [] (by simp) (by simp)
          ⟨b1, off, none⟩ m c (usCells M) hlen hnews (by omega) (by unfold maxLen; simp at hl; omega) (by simpa using hl)
        refine ⟨v', w', hr, .inr ?_, (Below.refl _ _).grown hg hB (by simp)⟩
        have hown' := owns_mono' hown hB
        simpa [hm] using hown'
    · obtain ⟨v', w', hr, hown, hg, _⟩ := run_append_own (P := Try.prog) w B 27 ty 22 i0 _ 1 8 Try.underlying27 hi hz0 hz1' hz2' rfl (by decide) v L.length (usCells L) h ⟨b1, off, none⟩ m c (usCells M) hlen hnews (oneUs M) (by unfold maxLen; omega) hl hB
      refine ⟨v', w', hr, .inr ?_, (Below.refl _ _).grown hg hB (fun k e => (h.lt k e).1)⟩
      rw [List.length_append, usCells_app, hm]
      exact hown
/-- What slices.Clone answers. -/
def ClPU (w : World) (L : List Nat) (e : Ending) (w' : World) : Prop := ∃ v', e = .returned v' ∧ CqU w.heap.size w' v' L ∧ Below w.heap.size w w'
/-- A row that is being laid: nothing in it (nil, or just begun), or what the call itself has laid. -/
def CqM (B : Nat) (w : World) (v : Value) (L : List Mk) : Prop := (L = [] ∧ ∃ ao, v = .slice ao 0 0) ∨ w.ownsRow B 42 2 v L.length (msCells L)
theorem CqM.later {B : Nat} {w w' : World} {v : Value} {L : List Mk} (h : CqM B w v L) (hb : Below w.heap.size w w') : CqM B w' v L := by
  rcases h with h | h
  · exact .inl h
  · refine .inr (h.kept ⟨hb.os, hb.tape, hb.output, hb.size, fun k hk _ => hb.block k hk⟩ (row := none) ?_)
    rcases h1 : v.ownBlock with _ | g
    · exact .inl rfl
    · exact .inr (by simp)
theorem CqM.nil (B : Nat) (w : World) (ao : Option Addr) : CqM B w (.slice ao 0 0) [] := .inl ⟨rfl, ao, rfl⟩
theorem CqM.mono {B B' : Nat} {w : World} {v : Value} {L : List Mk} (h : CqM B w v L) (hB : B' ≤ B) : CqM B' w v L := h.imp id fun h => owns_mono' h hB
/-- Its form: a slice; what it holds is there; its block is the call's own, or there is none in it. -/
theorem CqM.form {B : Nat} {w : World} {v : Value} {L : List Mk} (h : CqM B w v L) : ∃ a c, v = .slice a L.length c ∧ Ms w a L ∧ (0 < L.length → ∀ q, a = some q → B ≤ q.block) ∧ L.length ≤ c ∧ c ≤ maxLen := by
  rcases h with ⟨rfl, ao, rfl⟩ | h
  · exact ⟨ao, 0, rfl, fun j x hx => by simp at hx, fun h => by simp at h, Nat.le_refl _, by decide⟩
  · obtain ⟨a, c, e, hE, hf⟩ := ms_of_owns' h
    refine ⟨a, c, e, hE, fun _ => hf, ?_⟩
    rcases h.2 with ⟨e2, h0⟩ | ⟨g, cap, cur, e2, _, _, hn, hm, _⟩
    · injection e2.symm.trans e with _ _ h3
      subst h3; exact ⟨by omega, by decide⟩
    · injection e2.symm.trans e with _ _ h3
      subst h3; exact ⟨hn, hm⟩
/-- append(row, list...). -/
theorem appM (B : Nat) (w : World) (ty : TypeId) (v : Value) (L : List Mk) (h : CqM B w v L) (a : Option Addr) (m c : Nat) (M : List Mk) (hm : M.length = m) (hM : Ms w a M) (hl : (L.length + m) * 16 ≤ 140737488355328) (hB : B ≤ w.heap.size) :
    ∃ v' w', (Builtin.append_ #[30, 30] ty #[v, .slice a m c]).run Try.prog w = .ok v' w' ∧ (CqM B w' v' (L ++ M) ∧ Below B w w') := by
  obtain ⟨i0, hi, hz0, hz1', hz2'⟩ := info_parts infoMark
  rcases Nat.eq_zero_or_pos m with h0 | h0
  · subst h0
    have hM0 : M = [] := List.length_eq_zero_iff.1 hm
    subst hM0
    rw [List.append_nil]
    have hs : Src Try.prog i0.size 30 (.slice a 0 c) 0 [] w := by
      cases a with
      | none => exact Src.ofNil w Try.underlying30 c
      | some p => exact Src.ofSlice w Try.underlying30 p 0 c [] (by simp) (by simp) (by simp)
    have hv : ∃ ao n cap, v = .slice ao n cap ∧ n ≤ cap := by
      rcases h with ⟨_, ao, rfl⟩ | h
      · exact ⟨ao, 0, 0, rfl, Nat.le_refl _⟩
      · rcases h.2 with ⟨rfl, h0⟩ | ⟨g, cap, cur, rfl, _, _, hn, _⟩
        · exact ⟨none, 0, 0, rfl, Nat.le_refl _⟩
        · exact ⟨_, _, cap, rfl, hn⟩
    obtain ⟨ao, n, cap, rfl, hle⟩ := hv
    exact ⟨_, _, run_append_nothing w _ _ ty _ i0 Try.underlying30 hi ao n cap hle _ hs, h, Below.refl _ _⟩
  · obtain ⟨b1, off, rfl, hb1⟩ := hM.addr (by omega)
    have hrow := ms_row hM
    have hnews : ∀ j u, (msCells M)[j]? = some u → w.cell? ((⟨b1, off, none⟩ : Addr).add j) = some u := fun j u hj => by rw [addAny]; exact hrow j u hj
    have hlen : (msCells M).length = m * 2 := by rw [msCells_len, hm]
    rcases h with ⟨rfl, ao, rfl⟩ | h
    · cases ao with
      | none =>
        obtain ⟨v', w', hr, hown, hg, _⟩ := run_append_own (P := Try.prog) w B 30 ty 42 i0 _ 2 16 Try.underlying30 hi hz0 hz1' hz2' rfl (by decide) (.slice none 0 0) 0 [] (World.ownsRow_nil w B _ 2) ⟨b1, off, none⟩ m c (msCells M) hlen hnews (oneMs M) (by unfold maxLen; simp at hl; omega) (by simpa using hl) hB
        refine ⟨v', w', hr, .inr ?_, (Below.refl _ _).grown hg hB (by simp [Value.ownBlock])⟩
        simpa [hm] using hown
      | some b =>
        obtain ⟨v', w', hr, hown, hg⟩ := run_append_arg_grows (P := Try.prog) w 30 ty 42 i0 _ 2 16 Try.underlying30 hi hz0 hz1' hz2' rfl (by decide) b 0 0 [] (by simp) (by simp)
          ⟨b1, off, none⟩ m c (msCells M) hlen hnews (by omega) (by unfold maxLen; simp at hl; omega) (by simpa using hl)
        refine ⟨v', w', hr, .inr ?_, (Below.refl _ _).grown hg hB (by simp)⟩
        have hown' := owns_mono' hown hB
        simpa [hm] using hown'
    · obtain ⟨v', w', hr, hown, hg, _⟩ := run_append_own (P := Try.prog) w B 30 ty 42 i0 _ 2 16 Try.underlying30 hi hz0 hz1' hz2' rfl (by decide) v L.length (msCells L) h ⟨b1, off, none⟩ m c (msCells M) hlen hnews (oneMs M) (by unfold maxLen; omega) hl hB
      refine ⟨v', w', hr, .inr ?_, (Below.refl _ _).grown hg hB (fun k e => (h.lt k e).1)⟩
      rw [List.length_append, msCells_app, hm]
      exact hown
/-- What slices.Clone answers. -/
def ClPM (w : World) (L : List Mk) (e : Ending) (w' : World) : Prop := ∃ v', e = .returned v' ∧ CqM w.heap.size w' v' L ∧ Below w.heap.size w w'
set_option maxHeartbeats 1000000 in
/-- slices.Clone. -/
theorem cloneM_any (n c : Nat) (a : Option Addr) (L : List Mk) (hn : L.length = n) (hl : n * 16 ≤ 140737488355328) (w : World) (hM : Ms w a L) :
    Calls Try.prog 43 #[.slice a n c] w (ClPM w L) := by
  cases a with
  | none =>
    have hL : L = [] := by
      cases L with
      | nil => rfl
      | cons x r => obtain ⟨b, off, e, _⟩ := hM.addr (by simp); cases e
    subst hL
    clear hl hn hM
    have q22 : ∀ (w : World) (a : Option Addr) (n c n' c' : Nat), (binOp .eql 30 (.slice a n c) (.slice none n' c')).run Try.prog w = .ok (.bool a.isNone) w := fun w a n c n' c' => Lib.run_eql_slice_nil w _ _ a n c n' c' Try.underlying30
    go_enter Try.func43, Try.ntmps43
    go_wp2_with fail
    go_ret
    exact ⟨_, rfl, CqM.nil _ _ none, Below.refl _ _⟩
  | some p =>
    have B0 : Below w.heap.size w (w.alloc (.cells #[] 42)) := (Below.refl _ _).alloc (Nat.le_refl _) _
    obtain ⟨v', w', hr, hc, hb⟩ := appM w.heap.size (w.alloc (.cells #[] 42)) 30 (.slice (some ⟨w.heap.size, 0, none⟩) 0 0) [] (CqM.nil _ _ _) (some p) n c L hn (hM.later B0) (by simpa using hl) (by simp)
    have HR := Lib.hid hr
    have HC := Lib.hid (And.intro hc (B0.trans hb))
    clear hr hc hb hM hn B0 hl
    have q22 : ∀ (w : World) (a : Option Addr) (n c n' c' : Nat), (binOp .eql 30 (.slice a n c) (.slice none n' c')).run Try.prog w = .ok (.bool a.isNone) w := fun w a n c n' c' => Lib.run_eql_slice_nil w _ _ a n c n' c' Try.underlying30
    go_enter Try.func43, Try.ntmps43
    go_wp2_with (at_builtin; refine Lib.wpList_append_run _ rfl _ _ 30 30 rfl (.slice (some ⟨w.heap.size, 0, none⟩) 0 0) (.slice (some p) n c) rfl rfl _ _ HR.out ?_)
    go_wp2_with fail
    go_ret
    exact ⟨_, rfl, HC.out.1, HC.out.2⟩
end Go.Proofs.Ytoabpakichjieaa
