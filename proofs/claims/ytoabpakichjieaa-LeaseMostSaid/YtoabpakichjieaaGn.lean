/- Marks: Set; whether two lists of marks, of numbers, two configurations are the same. -/
import Derived.Test.YtoabpakichjieaaGm
namespace Go.Proofs.Ytoabpakichjieaa
open Go.RowKit

theorem msCells_set (L : List Mk) : ∀ (j : Nat) (x : Mk) (u : Nat), L[j]? = some x → (msCells L).set (j * 2 + 1) (.int .u64 (u : Nat)) = msCells (L.set j ⟨x.id, u⟩) := by
  induction L with
  | nil => intro j x u h; simp at h
  | cons y L ih =>
    intro j x u h
    cases j with
    | zero =>
      obtain rfl : y = x := by simpa using h
      simp [msCells, mkCells]
    | succ j =>
      have h2 := ih j x u (by simpa using h)
      have e : (j + 1) * 2 + 1 = (j * 2 + 1) + 1 + 1 := by omega
      rw [e]
      simp only [msCells, List.flatMap_cons, List.set_cons_succ] at h2 ⊢
      rw [← h2]
      simp [mkCells]
/-- A mark of a row of the call's own: where it lies; what a store into its number leaves. -/
theorem CqM.at {B : Nat} {w : World} {v : Value} {L : List Mk} (h : CqM B w v L) {j : Nat} {x : Mk} (hx : L[j]? = some x) :
    ∃ g cap, v = .slice (some ⟨g, 0, none⟩) L.length cap ∧ B ≤ g ∧ g < w.heap.size ∧ w.cell? ⟨g, j * 2, none⟩ = some (.int .u64 (x.id : Nat)) ∧ w.cell? ⟨g, j * 2 + 1, none⟩ = some (.int .u64 (x.n : Nat)) ∧ w.frozen? ⟨g, j * 2 + 1, none⟩ = false ∧
      ∀ u : Nat, CqM B (w.setCell ⟨g, j * 2 + 1, none⟩ (.int .u64 u)) v (L.set j ⟨x.id, u⟩) := by
  have hj := (List.getElem?_eq_some_iff.1 hx).1
  rcases h with ⟨rfl, _⟩ | h
  · simp at hx
  · have h' := h
    rcases h.2 with ⟨_, h0⟩ | ⟨g, cap, cur, e1, hB, hg, hn, hm, _⟩
    · omega
    · subst e1
      have c0 := h'.cellAt (j * 2) (by omega)
      have c1 := h'.cellAt (j * 2 + 1) (by omega)
      have a0 := msCells_at L j x hx 0 (by omega)
      have a1 := msCells_at L j x hx 1 (by omega)
      rw [Nat.add_zero] at a0
      rw [a0] at c0; rw [a1] at c1
      refine ⟨g, cap, rfl, hB, lt_of_row hg, c0, c1, h'.frozenAt _, fun u => .inr ?_⟩
      have hs := (h'.stored (j * 2 + 1) (.int .u64 u)).1
      rw [msCells_set L j x u hx] at hs
      rw [List.length_set]; exact hs
/-- One mark in a new block. -/
theorem ms_one (w : World) (m : Nat) (hm : m = w.heap.size) (i n : Nat) (T : TypeId) : Ms (w.alloc (.cells #[.int .u64 i, .int .u64 n] T)) (some ⟨m, 0, none⟩) [⟨i, n⟩] := fun j x hx => by
  have hj := (List.getElem?_eq_some_iff.1 hx).1
  have h0 : j = 0 := by simpa using hj
  subst h0 hm
  simp at hx
  subst hx
  exact ⟨_, 0, rfl, by simp, by simp [go_sem], by simp [go_sem]⟩
/-- What Set answers. -/
def SetP (w : World) (M : List Mk) (e : Ending) (w' : World) : Prop := ∃ v', e = .returned v' ∧ CqM w.heap.size w' v' M ∧ Below w.heap.size w w'
set_option maxHeartbeats 2000000 in
theorem pSet_any (id u n c : Nat) (a : Option Addr) (L : List Mk) (hn : L.length = n) (hl : n * 16 ≤ 140737488351232) (w : World) (hM : Ms w a L) :
    Calls Try.prog 26 #[.slice a n c, .int .u64 id, .int .u64 u] w (SetP w (setN id u L)) := by
  have HN := Lib.hid hn
  have HM := Lib.hid hM
  have HL := Lib.hid hl
  clear hn hM hl
  go_enter Try.func26, Try.ntmps26
  go_wp2_with fail
  refine (cloneM_any n c a L HN.out (by have := HL.out; omega) _ HM.out).mono ?_
  rintro e w1 ⟨v1, rfl, hc1, hb1⟩
  have HC := Lib.hid hc1
  have HB := Lib.hid hb1
  clear hc1 hb1
  go_wp2_with fail
  refine (place_any id n c a L HN.out (by have := HL.out; omega) _ (HM.out.later HB.out)).mono ?_
  rintro e w2 ⟨k, rfl, hk, hb2⟩
  have hc2 := HC.out.later hb2
  have HB2 := Lib.hid (HB.out.trans (hb2.mono HB.out.size))
  clear hb2
  rcases hk with ⟨rfl, hno⟩ | ⟨j, x, rfl, hx, he, hno⟩
  · obtain ⟨_, h1⟩ := marks_no hno
    obtain ⟨v', w', hr, hc, hb⟩ := appM w.heap.size (w2.alloc (.cells #[.int .u64 id, .int .u64 u] 42)) 30 v1 L (hc2.later ((Below.refl _ _).alloc (Nat.le_refl _) _)) (some ⟨w2.heap.size, 0, none⟩) 1 1 [⟨id, u⟩] rfl (ms_one _ _ rfl _ _ _) (by have := HN.out; have := HL.out; omega) (by have := HB2.out.size; simp; omega)
    have hBa : Below w.heap.size w (w2.alloc (.cells #[.int .u64 id, .int .u64 u] 42)) := HB2.out.alloc HB2.out.size _
    have HR := Lib.hid hr
    have HF := Lib.hid (show SetP w (setN id u L) (.returned v') w' from ⟨v', rfl, by rw [h1 u]; exact hc, hBa.trans hb⟩)
    clear hr hc hb hBa h1 hno hc2
    go_wp2_with (at_builtin; refine Lib.wpList_append_run _ rfl _ _ 30 30 rfl v1 (.slice (some ⟨w2.heap.size, 0, none⟩) 1 1) rfl rfl _ _ HR.out ?_)
    go_wp2_with fail
    go_ret
    exact HF.out
  · obtain ⟨_, h1⟩ := marks_yes hx he hno
    have hj : j < n := by have := (List.getElem?_eq_some_iff.1 hx).1; have := HN.out; omega
    obtain ⟨g, cap, rfl, hg1, hg2, p0, p1, pz, hst⟩ := hc2.at hx
    have i0 : (0 : Int) ≤ (j : Int) := by omega
    have i1 : (j : Int) < (n : Int) := by omega
    have HF := Lib.hid (show SetP w (setN id u L) (.returned (.slice (some ⟨g, 0, none⟩) n cap)) (w2.setCell ⟨g, j * 2 + 1, none⟩ (.int .u64 u)) from ⟨_, rfl, by rw [h1 u]; have h := hst u; rw [he, HN.out] at h; exact h, HB2.out.setCell hg1 _⟩)
    rw [HN.out]
    clear h1 hno hc2 hx he hst
    go_wp2_with fail
    go_ret
    exact HF.out
set_option maxHeartbeats 2000000 in
theorem rSet_any (id u n c : Nat) (a : Option Addr) (L : List Mk) (hn : L.length = n) (hl : n * 16 ≤ 140737488351232) (w : World) (hM : Ms w a L) :
    Calls Try.prog 31 #[.slice a n c, .int .u64 id, .int .u64 u] w (SetP w (setN id u L)) := by
  have HN := Lib.hid hn
  have HL := Lib.hid hl
  have B0 : Below w.heap.size w (w.alloc (.cells #[] 42)) := (Below.refl _ _).alloc (Nat.le_refl _) _
  obtain ⟨v1, w2, hr, hc, hb⟩ := appM w.heap.size (w.alloc (.cells #[] 42)) 30 (.slice (some ⟨w.heap.size, 0, none⟩) 0 0) [] (CqM.nil _ _ _) a n c L hn (hM.later B0) (by simp; omega) (by simp)
  rw [List.nil_append] at hc
  have HR := Lib.hid hr
  have HB2 := Lib.hid (B0.trans hb)
  obtain ⟨a1, c1, rfl, hM1, _, _, _⟩ := hc.form
  rw [hn] at hr HR
  have HC := Lib.hid hc
  have HM := Lib.hid hM1
  have hl' : n ≤ 140737488351232 := by omega
  have e1 : L.length = n := hn
  clear hr hb hM hn B0 hl hc hM1
  go_enter Try.func31, Try.ntmps31
  go_wp2_with (at_builtin; refine Lib.wpList_append_run _ rfl _ _ 30 30 rfl (.slice (some ⟨w.heap.size, 0, none⟩) 0 0) (.slice a n c) rfl rfl _ _ HR.out ?_)
  go_wp2_with fail
  go_loop [8] (fun u => ∃ k : Nat, k ≤ n ∧ u = .int .i64 k ∧ (∀ i, i < k → ∀ y : Mk, L[i]? = some y → y.id ≠ id)) (fun u => n - (intOf u).toNat)
  case atStart => exact ⟨0, Nat.zero_le _, rfl, fun i hi => absurd hi (Nat.not_lt_zero _)⟩
  case round =>
    obtain ⟨k, hk, rfl, hf⟩ := hrel
    have HFB := Lib.hid hf
    clear hf
    by_cases hlt : k < n
    · obtain ⟨x, hx⟩ : ∃ x, L[k]? = some x := ⟨_, List.getElem?_eq_getElem (by rw [HN.out]; exact hlt)⟩
      obtain ⟨g, cap, e', hg1, hg2, p0, p1, pz, hst⟩ := HC.out.at hx
      cases e'
      have i0 : (0 : Int) ≤ (k : Int) := by omega
      have i1 : (k : Int) < (n : Int) := by omega
      have HX := Lib.hid hx
      have HST := Lib.hid hst
      clear hx hst
      obtain ⟨xi, xn⟩ := x
      simp only at p0 p1
      by_cases he : xi = id
      · subst he
        have HF := Lib.hid (show SetP w (setN xi u L) (.returned (.slice (some ⟨g, 0, none⟩) n c1)) (w2.setCell ⟨g, k * 2 + 1, none⟩ (.int .u64 u)) from ⟨_, rfl, by rw [(marks_yes HX.out rfl HFB.out).2 u]; have h := HST.out u; simp only [HN.out] at h; exact h, HB2.out.setCell hg1 _⟩)
        go_wp2_with fail
        go_ret
        exact HF.out
      · have g' : ((xi : Int) == (id : Int)) = false := by simp; omega
        have HT := Lib.hid (show ∀ i, i < k + 1 → ∀ y : Mk, L[i]? = some y → y.id ≠ id from fun i hi y hy => by
          by_cases hik : i = k
          · subst hik; have := HX.out; rw [hy] at this; cases this; exact he
          · exact HFB.out i (by omega) y hy)
        clear he
        go_wp2_with fail
        go_round
        case rel => exact ⟨k + 1, by omega, by go_num, HT.out⟩
        case measure => simp [intOf]; omega
    · obtain ⟨_, h1⟩ := marks_no (L := L) (id := id) fun j y hy => HFB.out j (by have := (List.getElem?_eq_some_iff.1 hy).1; have := HN.out; omega) y hy
      obtain ⟨v', w', hr, hc, hb⟩ := appM w.heap.size (w2.alloc (.cells #[.int .u64 id, .int .u64 u] 42)) 30 (.slice a1 n c1) L (by have h := HC.out.later ((Below.refl _ _).alloc (Nat.le_refl _) (.cells #[.int .u64 id, .int .u64 u] 42)); rw [HN.out] at h; exact h) (some ⟨w2.heap.size, 0, none⟩) 1 1 [⟨id, u⟩] rfl (ms_one _ _ rfl _ _ _) (by have := HN.out; have := HL.out; omega) (by have := HB2.out.size; simp; omega)
      have hBa : Below w.heap.size w (w2.alloc (.cells #[.int .u64 id, .int .u64 u] 42)) := HB2.out.alloc HB2.out.size _
      have HR2 := Lib.hid hr
      have HF := Lib.hid (show SetP w (setN id u L) (.returned v') w' from ⟨v', rfl, by rw [h1 u]; exact hc, hBa.trans hb⟩)
      clear hr hc hb hBa h1
      go_wp2_with (at_builtin; refine Lib.wpList_append_run _ rfl _ _ 30 30 rfl (.slice a1 n c1) (.slice (some ⟨w2.heap.size, 0, none⟩) 1 1) rfl rfl _ _ HR2.out ?_)
      go_wp2_with fail
      go_ret
      exact HF.out
end Go.Proofs.Ytoabpakichjieaa
