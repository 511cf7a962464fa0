/- The program's sets: of keys, of transactions, of owners. -/
import Derived.Test.YtfidgnhinllhlaaNa
import Derived.DeepKeys4
import Derived.Maps.OwnSet
import Derived.StringKeys
namespace Go.Proofs.Ytfidgnhinllhlaa
open Go.RowKit Go.Maps

theorem grown_of {w w' : World} {b : Nat} (hb : Below w.heap.size w w') : w.grownBy w' (some b) := ⟨hb.os, hb.tape, hb.output, hb.size, fun k hk _ => hb.block k hk⟩
theorem grown_trans {w w1 w2 : World} {g : Nat} (h1 : w.grownBy w1 (some g)) (h2 : w1.grownBy w2 (some g)) : w.grownBy w2 (some g) :=
  ⟨h2.os.trans h1.os, h2.tape.trans h1.tape, h2.output.trans h1.output, Nat.le_trans h1.size h2.size, fun k hk hne => (h2.block k (Nat.lt_of_lt_of_le hk h1.size) hne).trans (h1.block k hk hne)⟩
theorem below_of {w w' : World} {b B : Nat} (hB : B ≤ b) (hs : B ≤ w.heap.size) (h : w.grownBy w' (some b)) : Below B w w' := (Below.refl B w).grown h hs (fun k e => by cases e; exact hB)
theorem laidOutL : laidOutB Try.prog = true := by kernel_rfl
theorem cu64L : Try.prog.cellsOf 23 = 1 := by kernel_rfl
theorem cstrL : Try.prog.cellsOf 9 = 1 := by kernel_rfl
theorem ctxL : Try.prog.cellsOf 25 = 2 := by kernel_rfl
theorem cowL : Try.prog.cellsOf 67 = 3 := by kernel_rfl
theorem zeroUnitL (w : World) : (zeroValue 73).run Try.prog w = .ok (.agg #[]) w := by kernel_rfl
theorem two_types : ∃ m, Try.prog.types.size = m + 2 := ⟨Try.prog.types.size - 2, by have : 1 < Try.prog.types.size := of_decide_eq_true (by kernel_rfl); omega⟩
theorem wf64 {i : Nat} (h : i < 18446744073709551616) : (Lit.int .u64 (i : Nat)).wf = true := by simp [Lit.wf, IntKind.min, IntKind.max, IntKind.signed, IntKind.bits]; omega

theorem keyedTx : Keyed Try.prog 25 :=
  Keyed.of_law (deep_law_laid laidOutL (m := 2) (by omega) (of_decide_eq_true (by kernel_rfl)) (by kernel_rfl) (by rw [Try.underlying25]))
theorem keyTypeTx : Try.prog.keyType 25 = true := by kernel_rfl
theorem formedTx {c0 c1 : Value} : (Value.agg #[c0, c1]).formed Try.prog 25 = true := by simp [Value.formed, Try.underlying25, ctxL]
theorem keyTx_some (t : Tx) (h : okX t) : (keyOf Try.prog 25 (txV t)).isSome = true := by
  have w1 := wf64 h.1
  have w2 := wf64 h.2
  obtain ⟨m, hm⟩ := two_types
  unfold keyOf txV
  rw [Try.underlying25]
  simp only [keyTypeTx, formedTx, Bool.and_self, ↓reduceIte, Option.isSome_map]
  unfold Program.keyLits
  rw [Try.underlying25, hm]
  simp [Program.keyLits, Try.underlying23, ctxL, cu64L, Value.cells, w1, w2]
/-- A transaction's key. -/
noncomputable def ktx (t : Tx) : Lit := (keyOf Try.prog 25 (txV t)).getD (.bool false)
theorem keyTx (t : Tx) (h : okX t) : keyOf Try.prog 25 (.agg #[.int .u64 (t.age : Nat), .int .u64 (t.id : Nat)]) = some (ktx t) := by
  have := keyTx_some t h
  unfold ktx
  cases hk : keyOf Try.prog 25 (txV t)
  · rw [hk] at this; cases this
  · rfl
theorem ktx_lit (t : Tx) (h : okX t) : WideAt.IsKeyLit (ktx t) := keyedTx.key (keyTx t h)
theorem ktx_ne {t u : Tx} (h : okX t) (h2 : okX u) (hne : ¬ t = u) : ktx t ≠ ktx u := fun e => by
  have h3 := keyTx u h2
  rw [← e] at h3
  have := keyedTx.inj (keyTx t h) h3
  obtain ⟨a, i⟩ := t
  obtain ⟨b, j⟩ := u
  injection this with this
  simp at this
  exact hne (by rw [show a = b by omega, show i = j by omega])

/-- A set of transactions; what it holds. -/
abbrev SX (w : World) (b n : Nat) (D : DataW Unit) : Prop := w.ownsMap Try.prog 25 (unitElem (H := Unit)) b n D
theorem SX_under {w w' : World} {b n B : Nat} {D : DataW Unit} (h : SX w b n D) (hb : Below B w w') (hlt : b < B) : SX w' b n D := by
  obtain ⟨es, clock, h1, r⟩ := h
  exact ⟨es, clock, by rw [hb.block b hlt]; exact h1, r⟩
theorem SX_later {w w' : World} {b n : Nat} {D : DataW Unit} (h : SX w b n D) (hb : Below w.heap.size w w') : SX w' b n D := SX_under h hb h.lt
theorem SX_grown {w w' : World} {b n g : Nat} {D : DataW Unit} (h : SX w b n D) (hg : w.grownBy w' (some g)) (hne : b ≠ g) : SX w' b n D := by
  have hl := h.lt
  obtain ⟨es, clock, h1, r⟩ := h
  exact ⟨es, clock, by rw [hg.block b hl (by simpa using hne)]; exact h1, r⟩
def HX (D : DataW Unit) (m : Tx → Bool) : Prop := ∀ (t : Tx), okX t → Maps.has D (ktx t) = m t
set_option maxRecDepth 100000 in
set_option maxHeartbeats 4000000 in
theorem hasX_any (b n : Nat) (t : Tx) (D : DataW Unit) (m : Tx → Bool) (hx : okX t) (w : World) (hown : SX w b n D) (hD : HX D m) :
    Calls Try.prog 36 #[.map (some b), txV t] w fun e w' => e = .returned (.bool (m t)) ∧ Below w.heap.size w w' := by
  have hk := keyTx t hx
  have h1 := hD t hx
  obtain ⟨h, hh⟩ : ∃ h, m t = h := ⟨_, rfl⟩
  rw [hh] at h1 ⊢
  have HH := Lib.hid h1
  have HW := Lib.hid hown
  clear hD hh hown h1
  obtain ⟨ta, ti⟩ := t
  go_enter Try.func36, Try.ntmps36
  go_wp2_with (first
    | (at_lookup; refine wpList_lookup_own_unit _ rfl _ _ 69 rfl 25 73 keyedTx Try.underlying69 (zeroUnitL _) b n _ rfl (SX_later HW.out (by first | exact Below.refl _ _ | go_grown)) _ _ rfl hk ?_; rw [HH.out])
    | go_in)
  go_ret
  exact ⟨by first | rfl | simp, by go_grown⟩
/-- What add answers. -/
def AdX (b n : Nat) (t : Tx) (m : Tx → Bool) (w : World) (e : Ending) (w' : World) : Prop := ∃ D, e = .returned (.bool (!m t)) ∧ (∃ n', n' ≤ n + 1 ∧ SX w' b n' D) ∧ HX D (fun u => m u || decide (t = u)) ∧ w.grownBy w' (some b)
set_option maxRecDepth 100000 in
set_option maxHeartbeats 4000000 in
theorem addX_any (b n : Nat) (t : Tx) (D : DataW Unit) (m : Tx → Bool) (hx : okX t) (hn : n ≤ 35184372088832) (w : World) (hown : SX w b n D) (hD : HX D m) :
    Calls Try.prog 37 #[.map (some b), txV t] w (AdX b n t m w) := by
  have hk := keyTx t hx
  have hmx : n < maxLen := by unfold maxLen; omega
  have HPUT := Lib.hid (show HX (D.put (ktx t) (.agg [])) (fun u => m u || decide (t = u)) from fun u ho => by
    by_cases he : t = u
    · subst he
      rw [has_put_same hown.isMap (ktx_lit t hx)]; simp
    · rw [has_put_other (ktx_ne ho hx (fun e => he e.symm)), hD u ho]; simp [he])
  have HFIN := Lib.hid (fun (w2 w3 : World) (h2 : Below w.heap.size w w2) (h3 : w2.grownBy w3 (some b)) (hs : SX w3 b (n + 1) (D.put (ktx t) (.agg []))) => (show AdX b n t m w (.returned (.bool (!m t))) w3 from ⟨_, rfl, ⟨n + 1, Nat.le_refl _, hs⟩, HPUT.out, grown_trans (grown_of h2) h3⟩))
  have HC := Lib.hid (fun w' (hb : Below w.heap.size w w') => hasX_any b n t D m hx w' (SX_later hown hb) hD)
  have HW := Lib.hid hown
  obtain ⟨r, hr⟩ : ∃ r, m t = r := ⟨_, rfl⟩
  rw [hr] at HC HFIN
  have HB := Lib.hid (Below.refl w.heap.size w)
  clear hD hown hr HPUT
  obtain ⟨ta, ti⟩ := t
  obtain ⟨W, hW⟩ : ∃ W, w.alloc (.cells #[.int .u64 (ta : Nat), .int .u64 (ti : Nat)] 25) = W := ⟨_, rfl⟩
  have HB := Lib.hid (show Below w.heap.size w W from hW ▸ (Below.refl _ _).alloc (Nat.le_refl _) _)
  obtain ⟨lt, c0, c1⟩ : w.heap.size < W.heap.size ∧ W.cell? ⟨w.heap.size, 0, none⟩ = some (.int .u64 (ta : Nat)) ∧ W.cell? ⟨w.heap.size, 1, none⟩ = some (.int .u64 (ti : Nat)) := by subst hW; exact ⟨by simp, by simp [go_sem], by simp [go_sem]⟩
  have HCS := Lib.hid (And.intro lt (show W.cell? ⟨w.heap.size, 0, none⟩ = some (.int .u64 (ta : Nat)) ∧ W.cell? ⟨w.heap.size, 1, none⟩ = some (.int .u64 (ti : Nat)) from ⟨c0, c1⟩))
  have HWW := Lib.hid hW
  clear lt hW
  obtain ⟨x3, hx3⟩ : ∃ x, w.heap.size = x := ⟨_, rfl⟩
  have HX3 := Lib.hid hx3
  rw [hx3] at c0 c1 HCS
  clear hx3
  go_enter Try.func37, Try.ntmps37
  go_wp2_with fail
  try rw [HWW.out]
  try rw [HX3.out]
  refine (HC.out _ HB.out).mono ?_
  rintro e w2 ⟨rfl, hb2⟩
  have HB2 := Lib.hid (HB.out.trans (hb2.mono HB.out.size))
  obtain ⟨lt, c0, c1⟩ := HCS.out
  have d := fun i v (e : W.cell? ⟨x3, i, none⟩ = some v) => (hb2.cell (p := ⟨x3, i, none⟩) lt).trans e
  replace c0 := d _ _ c0; replace c1 := d _ _ c1
  clear d lt
  clear hb2
  go_wp2_with (at_mapUpdate; refine wpList_mapUpdate_own _ rfl _ _ _ 69 rfl 25 73 keyedTx Try.underlying69 (unitElem (H := Unit)) b n _ rfl (SX_later HW.out HB2.out) hmx _ _ _ rfl rfl hk _ [] unitElem_mk ?_; intro w3 hown3 hgrow3)
  go_ret
  exact HFIN.out w2 w3 HB2.out hgrow3 hown3
end Go.Proofs.Ytfidgnhinllhlaa
