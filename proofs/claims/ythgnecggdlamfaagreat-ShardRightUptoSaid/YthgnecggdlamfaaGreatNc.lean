/- The program's sets of owners, of keys. -/
import Derived.Test.YthgnecggdlamfaaGreatNd
import Derived.Test.YthgnecggdlamfaaGreatHb
namespace Go.Proofs.YthgnecggdlamfaaGreat
open Go.RowKit Go.Maps

theorem cowL : Tryz.prog.cellsOf 79 = 3 := by kernel_rfl
/-- An owner: a transaction with a key. -/
@[reducible] def owV (t : Tx) (k : ByteArray) : Value := .agg #[.int .u64 (t.age : Nat), .int .u64 (t.id : Nat), .string k]
theorem keyedOw : Keyed Tryz.prog 79 :=
  Keyed.of_law (deep_law_laid laidOutL (m := 3) (by omega) (of_decide_eq_true (by kernel_rfl)) (by kernel_rfl) (by rw [Tryz.underlying79]))
theorem keyTypeOw : Tryz.prog.keyType 79 = true := by kernel_rfl
theorem formedOw {c0 c1 c2 : Value} : (Value.agg #[c0, c1, c2]).formed Tryz.prog 79 = true := by simp [Value.formed, Tryz.underlying79, cowL]
theorem keyOw_some (t : Tx) (k : ByteArray) (h : okA k t) : (keyOf Tryz.prog 79 (owV t k)).isSome = true := by
  have w1 := wf64 h.2.1
  have w2 := wf64 h.2.2
  have w3 : k.size ≤ maxLen := by have := h.1; unfold maxLen; omega
  obtain ⟨m, hm⟩ := two_types
  unfold keyOf owV
  rw [Tryz.underlying79]
  simp only [keyTypeOw, formedOw, Bool.and_self, ↓reduceIte, Option.isSome_map]
  unfold Program.keyLits
  rw [Tryz.underlying79, hm]
  simp [Program.keyLits, Tryz.underlying26, Tryz.underlying9, Tryz.underlying33, cowL, ctxL, cu64L, cstrL, Value.cells, w1, w2, w3]
  rw [if_pos (by decide)]; rfl
/-- An owner's key. -/
noncomputable def kow (t : Tx) (k : ByteArray) : Lit := (keyOf Tryz.prog 79 (owV t k)).getD (.bool false)
theorem keyOw (t : Tx) (k : ByteArray) (h : okA k t) : keyOf Tryz.prog 79 (.agg #[.int .u64 (t.age : Nat), .int .u64 (t.id : Nat), .string k]) = some (kow t k) := by
  have := keyOw_some t k h
  unfold kow
  cases hk : keyOf Tryz.prog 79 (owV t k)
  · rw [hk] at this; cases this
  · rfl
set_option maxRecDepth 100000 in
theorem kow_lit (t : Tx) (k : ByteArray) (h : okA k t) : WideAt.IsKeyLit (kow t k) := keyedOw.key (keyOw t k h)
theorem kow_ne {t u : Tx} {k l : ByteArray} (h : okA k t) (h2 : okA l u) (hne : ¬ (t = u ∧ k = l)) : kow t k ≠ kow u l := fun e => by
  have h3 := keyOw u l h2
  rw [← e] at h3
  have := keyedOw.inj (keyOw t k h) h3
  obtain ⟨a, i⟩ := t
  obtain ⟨b, j⟩ := u
  injection this with this
  simp at this
  exact hne ⟨by rw [show a = b by omega, show i = j by omega], this.2.2⟩

/-- A set of owners; what it holds. -/
abbrev SW (w : World) (b n : Nat) (D : DataW Unit) : Prop := w.ownsMap Tryz.prog 79 (unitElem (H := Unit)) b n D
theorem SW_under {w w' : World} {b n B : Nat} {D : DataW Unit} (h : SW w b n D) (hb : Below B w w') (hlt : b < B) : SW w' b n D := by
  obtain ⟨es, clock, h1, r⟩ := h
  exact ⟨es, clock, by rw [hb.block b hlt]; exact h1, r⟩
theorem SW_later {w w' : World} {b n : Nat} {D : DataW Unit} (h : SW w b n D) (hb : Below w.heap.size w w') : SW w' b n D := SW_under h hb h.lt
theorem SW_grown {w w' : World} {b n g : Nat} {D : DataW Unit} (h : SW w b n D) (hg : w.grownBy w' (some g)) (hne : b ≠ g) : SW w' b n D := by
  have hl := h.lt
  obtain ⟨es, clock, h1, r⟩ := h
  exact ⟨es, clock, by rw [hg.block b hl (by simpa using hne)]; exact h1, r⟩
def HW (D : DataW Unit) (m : Tx → ByteArray → Bool) : Prop := ∀ (t : Tx) (k : ByteArray), okA k t → Maps.has D (kow t k) = m t k
set_option maxRecDepth 100000 in
set_option maxHeartbeats 4000000 in
theorem hasW_any (b n : Nat) (t : Tx) (k : ByteArray) (D : DataW Unit) (m : Tx → ByteArray → Bool) (hx : okA k t) (w : World) (hown : SW w b n D) (hD : HW D m) :
    Calls Tryz.prog 72 #[.map (some b), owV t k] w fun e w' => e = .returned (.bool (m t k)) ∧ Below w.heap.size w w' := by
  have hk := keyOw t k hx
  have h1 := hD t k hx
  obtain ⟨h, hh⟩ : ∃ h, m t k = h := ⟨_, rfl⟩
  rw [hh] at h1 ⊢
  have HH := Lib.hid h1
  have HW := Lib.hid hown
  clear hD hh hown h1
  obtain ⟨ta, ti⟩ := t
  go_enter Tryz.func72, Tryz.ntmps72
  go_wp2_with (first
    | (at_lookup; refine wpList_lookup_own_unit _ rfl _ _ 76 rfl 79 112 keyedOw Tryz.underlying76 (zeroUnitL _) b n _ rfl (SW_later HW.out (by first | exact Below.refl _ _ | go_grown)) _ _ rfl hk ?_; rw [HH.out])
    | go_in)
  go_ret
  exact ⟨by first | rfl | simp, by go_grown⟩
/-- What add answers. -/
def AdW (b n : Nat) (t : Tx) (k : ByteArray) (m : Tx → ByteArray → Bool) (w : World) (e : Ending) (w' : World) : Prop := ∃ D, e = .returned (.bool (!m t k)) ∧ (∃ n', n' ≤ n + 1 ∧ SW w' b n' D) ∧ HW D (fun u l => m u l || decide (t = u ∧ k = l)) ∧ w.grownBy w' (some b)
set_option maxRecDepth 100000 in
set_option maxHeartbeats 4000000 in
theorem addW_any (b n : Nat) (t : Tx) (k : ByteArray) (D : DataW Unit) (m : Tx → ByteArray → Bool) (hx : okA k t) (hn : n ≤ 35184372088832) (w : World) (hown : SW w b n D) (hD : HW D m) :
    Calls Tryz.prog 44 #[.map (some b), owV t k] w (AdW b n t k m w) := by
  have hk := keyOw t k hx
  have hmx : n < maxLen := by unfold maxLen; omega
  have HPUT := Lib.hid (show HW (D.put (kow t k) (.agg [])) (fun u l => m u l || decide (t = u ∧ k = l)) from fun u l ho => by
    by_cases he : t = u ∧ k = l
    · obtain ⟨rfl, rfl⟩ := he
      rw [has_put_same hown.isMap (kow_lit t k hx)]; simp
    · rw [has_put_other (kow_ne ho hx (fun e => he ⟨e.1.symm, e.2.symm⟩)), hD u l ho]; simp [he])
  have HFIN := Lib.hid (fun (w2 w3 : World) (h2 : Below w.heap.size w w2) (h3 : w2.grownBy w3 (some b)) (hs : SW w3 b (n + 1) (D.put (kow t k) (.agg []))) => (show AdW b n t k m w (.returned (.bool (!m t k))) w3 from ⟨_, rfl, ⟨n + 1, Nat.le_refl _, hs⟩, HPUT.out, grown_trans (grown_of h2) h3⟩))
  have HC := Lib.hid (fun w' (hb : Below w.heap.size w w') => hasW_any b n t k D m hx w' (SW_later hown hb) hD)
  have HW := Lib.hid hown
  obtain ⟨r, hr⟩ : ∃ r, m t k = r := ⟨_, rfl⟩
  rw [hr] at HC HFIN
  have HB := Lib.hid (Below.refl w.heap.size w)
  clear hD hown hr HPUT
  obtain ⟨ta, ti⟩ := t
  obtain ⟨W, hW⟩ : ∃ W, w.alloc (.cells #[.int .u64 (ta : Nat), .int .u64 (ti : Nat), .string k] 79) = W := ⟨_, rfl⟩
  have HB := Lib.hid (show Below w.heap.size w W from hW ▸ (Below.refl _ _).alloc (Nat.le_refl _) _)
  obtain ⟨lt, c0, c1, c2⟩ : w.heap.size < W.heap.size ∧ W.cell? ⟨w.heap.size, 0, none⟩ = some (.int .u64 (ta : Nat)) ∧ W.cell? ⟨w.heap.size, 1, none⟩ = some (.int .u64 (ti : Nat)) ∧ W.cell? ⟨w.heap.size, 2, none⟩ = some (.string k) := by subst hW; exact ⟨by simp, by simp [go_sem], by simp [go_sem], by simp [go_sem]⟩
  have HCS := Lib.hid (And.intro lt (show W.cell? ⟨w.heap.size, 0, none⟩ = some (.int .u64 (ta : Nat)) ∧ W.cell? ⟨w.heap.size, 1, none⟩ = some (.int .u64 (ti : Nat)) ∧ W.cell? ⟨w.heap.size, 2, none⟩ = some (.string k) from ⟨c0, c1, c2⟩))
  have HWW := Lib.hid hW
  clear lt hW
  obtain ⟨x3, hx3⟩ : ∃ x, w.heap.size = x := ⟨_, rfl⟩
  have HX3 := Lib.hid hx3
  rw [hx3] at c0 c1 c2 HCS
  clear hx3
  go_enter Tryz.func44, Tryz.ntmps44
  go_wp2_with fail
  try rw [HWW.out]
  try rw [HX3.out]
  refine (HC.out _ HB.out).mono ?_
  rintro e w2 ⟨rfl, hb2⟩
  have HB2 := Lib.hid (HB.out.trans (hb2.mono HB.out.size))
  obtain ⟨lt, c0, c1, c2⟩ := HCS.out
  have d := fun i v (e : W.cell? ⟨x3, i, none⟩ = some v) => (hb2.cell (p := ⟨x3, i, none⟩) lt).trans e
  replace c0 := d _ _ c0; replace c1 := d _ _ c1; replace c2 := d _ _ c2
  clear d lt
  clear hb2
  go_wp2_with (at_mapUpdate; refine wpList_mapUpdate_own _ rfl _ _ _ 76 rfl 79 112 keyedOw Tryz.underlying76 (unitElem (H := Unit)) b n _ rfl (SW_later HW.out HB2.out) hmx _ _ _ rfl rfl hk _ [] unitElem_mk ?_; intro w3 hown3 hgrow3)
  go_ret
  exact HFIN.out w2 w3 HB2.out hgrow3 hown3


/-- A set of keys; what it holds. -/
abbrev SS (w : World) (b n : Nat) (D : DataW Unit) : Prop := w.ownsMap Tryz.prog 9 (unitElem (H := Unit)) b n D
theorem SS_under {w w' : World} {b n B : Nat} {D : DataW Unit} (h : SS w b n D) (hb : Below B w w') (hlt : b < B) : SS w' b n D := by
  obtain ⟨es, clock, h1, r⟩ := h
  exact ⟨es, clock, by rw [hb.block b hlt]; exact h1, r⟩
theorem SS_later {w w' : World} {b n : Nat} {D : DataW Unit} (h : SS w b n D) (hb : Below w.heap.size w w') : SS w' b n D := SS_under h hb h.lt
theorem SS_grown {w w' : World} {b n g : Nat} {D : DataW Unit} (h : SS w b n D) (hg : w.grownBy w' (some g)) (hne : b ≠ g) : SS w' b n D := by
  have hl := h.lt
  obtain ⟨es, clock, h1, r⟩ := h
  exact ⟨es, clock, by rw [hg.block b hl (by simpa using hne)]; exact h1, r⟩
def HS (D : DataW Unit) (m : ByteArray → Bool) : Prop := ∀ (k : ByteArray), k.size ≤ 140737488351232 → Maps.has D (Lit.string k.data.toList) = m k
set_option maxRecDepth 100000 in
set_option maxHeartbeats 4000000 in
theorem hasS_any (b n : Nat) (k : ByteArray) (D : DataW Unit) (m : ByteArray → Bool) (hx : k.size ≤ 140737488351232) (w : World) (hown : SS w b n D) (hD : HS D m) :
    Calls Tryz.prog 43 #[.map (some b), .string k] w fun e w' => e = .returned (.bool (m k)) ∧ Below w.heap.size w w' := by
  have hk := keyS hx
  have h1 := hD k hx
  obtain ⟨h, hh⟩ : ∃ h, m k = h := ⟨_, rfl⟩
  rw [hh] at h1 ⊢
  have HH := Lib.hid h1
  have HW := Lib.hid hown
  clear hD hh hown h1
  go_enter Tryz.func43, Tryz.ntmps43
  go_wp2_with (first
    | (at_lookup; refine wpList_lookup_own_unit _ rfl _ _ 74 rfl 9 112 keyedS Tryz.underlying74 (zeroUnitL _) b n _ rfl (SS_later HW.out (by first | exact Below.refl _ _ | go_grown)) _ _ rfl hk ?_; rw [HH.out])
    | go_in)
  go_ret
  exact ⟨by first | rfl | simp, by go_grown⟩
/-- What add answers. -/
def AdS (b n : Nat) (k : ByteArray) (m : ByteArray → Bool) (w : World) (e : Ending) (w' : World) : Prop := ∃ D, e = .returned (.bool (!m k)) ∧ (∃ n', n' ≤ n + 1 ∧ SS w' b n' D) ∧ HS D (fun l => m l || decide (k = l)) ∧ w.grownBy w' (some b)
set_option maxRecDepth 100000 in
set_option maxHeartbeats 4000000 in
theorem addS_any (b n : Nat) (k : ByteArray) (D : DataW Unit) (m : ByteArray → Bool) (hx : k.size ≤ 140737488351232) (hn : n ≤ 35184372088832) (w : World) (hown : SS w b n D) (hD : HS D m) :
    Calls Tryz.prog 42 #[.map (some b), .string k] w (AdS b n k m w) := by
  have hk := keyS hx
  have hmx : n < maxLen := by unfold maxLen; omega
  have HPUT := Lib.hid (show HS (D.put (Lit.string k.data.toList) (.agg [])) (fun l => m l || decide (k = l)) from fun l ho => by
    by_cases he : k = l
    · subst he
      rw [has_put_same hown.isMap (litS_key k)]; simp
    · rw [has_put_other (litS_ne (fun e => he e.symm)), hD l ho]; simp [he])
  have HFIN := Lib.hid (fun (w2 w3 : World) (h2 : Below w.heap.size w w2) (h3 : w2.grownBy w3 (some b)) (hs : SS w3 b (n + 1) (D.put (Lit.string k.data.toList) (.agg []))) => (show AdS b n k m w (.returned (.bool (!m k))) w3 from ⟨_, rfl, ⟨n + 1, Nat.le_refl _, hs⟩, HPUT.out, grown_trans (grown_of h2) h3⟩))
  have HC := Lib.hid (fun w' (hb : Below w.heap.size w w') => hasS_any b n k D m hx w' (SS_later hown hb) hD)
  have HW := Lib.hid hown
  obtain ⟨r, hr⟩ : ∃ r, m k = r := ⟨_, rfl⟩
  rw [hr] at HC HFIN
  have HB := Lib.hid (Below.refl w.heap.size w)
  clear hD hown hr HPUT
  go_enter Tryz.func42, Tryz.ntmps42
  go_wp2_with fail
  refine (HC.out _ HB.out).mono ?_
  rintro e w2 ⟨rfl, hb2⟩
  have HB2 := Lib.hid (HB.out.trans (hb2.mono HB.out.size))
  clear hb2
  go_wp2_with (at_mapUpdate; refine wpList_mapUpdate_own _ rfl _ _ _ 74 rfl 9 112 keyedS Tryz.underlying74 (unitElem (H := Unit)) b n _ rfl (SS_later HW.out HB2.out) hmx _ _ _ rfl rfl hk _ [] unitElem_mk ?_; intro w3 hown3 hgrow3)
  go_ret
  exact HFIN.out w2 w3 HB2.out hgrow3 hown3
end Go.Proofs.YthgnecggdlamfaaGreat
