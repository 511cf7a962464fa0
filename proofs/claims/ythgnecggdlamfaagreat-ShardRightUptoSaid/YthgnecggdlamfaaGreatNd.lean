/- The closures of Ask and Has; slices.IndexFunc over any closure; Has, Elder: the program's. -/
import Derived.Test.YthgnecggdlamfaaGreatVg
import Derived.DeepKeys4
import Derived.Maps.OwnSet
import Derived.StringKeys
namespace Go.Proofs.YthgnecggdlamfaaGreat
open Go.RowKit

/-- Where the first one lies of which f is true. -/
def FsG {α : Type} (f : α → Bool) (L : List α) (k : Int) : Prop := (k = -1 ∧ ∀ x ∈ L, f x = false) ∨ ∃ (j : Nat) (x : α), k = (j : Int) ∧ L[j]? = some x ∧ f x = true ∧ ∀ i, i < j → ∀ y : α, L[i]? = some y → f y = false
/-- One value in a box. -/
structure B1 (w : World) (h : Nat) (v : Value) : Prop where
  c : w.cell? ⟨h, 0, none⟩ = some v
  lt : h < w.heap.size
theorem B1.later {w w' : World} {h : Nat} {v : Value} (H : B1 w h v) (hb : Below w.heap.size w w') : B1 w' h v := ⟨(hb.cell (p := ⟨h, 0, none⟩) H.lt).trans H.c, Nat.lt_of_lt_of_le H.lt hb.size⟩
theorem B1.grown {w w' : World} {h g : Nat} {v : Value} (H : B1 w h v) (hg : w.grownBy w' (some g)) (hne : h ≠ g) : B1 w' h v := ⟨(World.cell?_of_block (a := ⟨h, 0, none⟩) (hg.block h H.lt (by simpa using hne))).trans H.c, Nat.lt_of_lt_of_le H.lt hg.size⟩
theorem TxBox.grown {w w' : World} {h g : Nat} {x : Tx} (H : TxBox w h x) (hg : w.grownBy w' (some g)) (hne : h ≠ g) : TxBox w' h x := ⟨Nat.lt_of_lt_of_le H.lt hg.size, (World.cell?_of_block (a := ⟨h, 0, none⟩) (hg.block h H.lt (by simpa using hne))).trans H.c0, (World.cell?_of_block (a := ⟨h, 1, none⟩) (hg.block h H.lt (by simpa using hne))).trans H.c1⟩
/-- What a closure over locks answers, whatever comes behind a world. -/
def ClF (fn : Nat) (caps : Array Value) (f : Ho → Bool) (w : World) : Prop := ∀ (x : Ho) (w' : World), okA x.key x.t → Below w.heap.size w w' → Calls Tryz.prog fn (#[hoV x] ++ caps) w' fun e w2 => e = .returned (.bool (f x)) ∧ Below w'.heap.size w' w2
theorem ClF.later {fn : Nat} {caps : Array Value} {f : Ho → Bool} {w w' : World} (h : ClF fn caps f w) (hb : Below w.heap.size w w') : ClF fn caps f w' := fun x w2 ho h2 => h x w2 ho (hb.trans (h2.mono hb.size))
set_option maxRecDepth 100000 in
set_option maxHeartbeats 2000000 in
theorem index_any (fn : Nat) (caps : Array Value) (f : Ho → Bool) (n c : Nat) (a : Option Addr) (L : List Ho) (hn : L.length = n) (hl : n ≤ 140737488351232) (hs : smallH L) (w : World) (hR : ∀ (x : Ho) (w : World), (callFunc fn (#[.agg #[.string x.key, .int .u64 (x.t.age : Nat), .int .u64 (x.t.id : Nat), .bool x.wr]] ++ caps)).run Tryz.prog w = .ok (.enter fn (#[.agg #[.string x.key, .int .u64 (x.t.age : Nat), .int .u64 (x.t.id : Nat), .bool x.wr]] ++ caps)) w) (H : ClF fn caps f w) (hM : Hos w a L) :
    Calls Tryz.prog 49 #[.slice a n c, .func (.func fn) #[] caps] w fun e w' => (∃ k : Int, e = .returned (.int .i64 k) ∧ FsG f L k) ∧ Below w.heap.size w w' := by
  have HN := Lib.hid hn
  have HM := Lib.hid hM
  have HC := Lib.hid H
  have HS := Lib.hid hs
  clear hn hM H hs
  go_enter Tryz.func49, Tryz.ntmps49
  go_wp2_with fail
  go_loopw [8] (fun u wr => ∃ k : Nat, k ≤ n ∧ u = .int .i64 k ∧ (∀ i, i < k → ∀ y : Ho, L[i]? = some y → f y = false) ∧ Below w.heap.size w wr) (fun u _ => n - (intOf u).toNat)
  case atStart => exact ⟨0, Nat.zero_le _, rfl, fun i hi => absurd hi (Nat.not_lt_zero _), Below.refl _ _⟩
  case round =>
    obtain ⟨k, hk, rfl, hf, B⟩ := hrel
    have HFB := Lib.hid hf
    clear hf
    by_cases hlt : k < n
    · obtain ⟨x, hx⟩ : ∃ x, L[k]? = some x := ⟨_, List.getElem?_eq_getElem (by rw [HN.out]; exact hlt)⟩
      obtain ⟨b, off, rfl, hb, p0, p1, p2, p3⟩ := Hos.cells (HM.out.later B) hx
      have HBB := Lib.hid B
      have HX := Lib.hid hx
      have hxo := HS.out x (List.mem_of_getElem? hx)
      have i0 : (0 : Int) ≤ (k : Int) := by omega
      have i1 : (k : Int) < (n : Int) := by omega
      clear hx B
      go_wp2_with fail
      refine (HC.out x _ hxo HBB.out).mono ?_
      rintro e w2 ⟨rfl, hb2⟩
      have HB3 := Lib.hid (HBB.out.trans (hb2.mono HBB.out.size))
      clear hb2
      by_cases he : f x = true
      · rw [he]
        have HT := Lib.hid (show FsG f L k from Or.inr ⟨k, x, rfl, HX.out, he, HFB.out⟩)
        clear he
        go_wp2_with fail
        go_ret
        exact ⟨⟨k, rfl, HT.out⟩, HB3.out⟩
      · have he : f x = false := by simpa using he
        rw [he]
        have HT := Lib.hid (show ∀ i, i < k + 1 → ∀ y : Ho, L[i]? = some y → f y = false from fun i hi y hy => by
          by_cases hik : i = k
          · subst hik; have := HX.out; rw [hy] at this; cases this; exact he
          · exact HFB.out i (by omega) y hy)
        clear he
        go_wp2_with fail
        go_roundw
        case rel => exact ⟨k + 1, by omega, by go_num, HT.out, HB3.out⟩
        case measure => simp [intOf]; omega
    · have HT := Lib.hid (show FsG f L (-1) from Or.inl ⟨rfl, fun y hy => by
        obtain ⟨j, hj⟩ := List.mem_iff_getElem?.1 hy
        exact HFB.out j (by have := (List.getElem?_eq_some_iff.1 hj).1; have := HN.out; omega) y hj⟩)
      go_wp2_with fail
      go_ret
      exact ⟨⟨-1, rfl, HT.out⟩, B⟩
end Go.Proofs.YthgnecggdlamfaaGreat
/- The program's sets: of keys, of transactions, of owners. -/
namespace Go.Proofs.YthgnecggdlamfaaGreat
open Go.RowKit Go.Maps

theorem grown_of {w w' : World} {b : Nat} (hb : Below w.heap.size w w') : w.grownBy w' (some b) := ⟨hb.os, hb.tape, hb.output, hb.size, fun k hk _ => hb.block k hk⟩
theorem grown_trans {w w1 w2 : World} {g : Nat} (h1 : w.grownBy w1 (some g)) (h2 : w1.grownBy w2 (some g)) : w.grownBy w2 (some g) :=
  ⟨h2.os.trans h1.os, h2.tape.trans h1.tape, h2.output.trans h1.output, Nat.le_trans h1.size h2.size, fun k hk hne => (h2.block k (Nat.lt_of_lt_of_le hk h1.size) hne).trans (h1.block k hk hne)⟩
theorem below_of {w w' : World} {b B : Nat} (hB : B ≤ b) (hs : B ≤ w.heap.size) (h : w.grownBy w' (some b)) : Below B w w' := (Below.refl B w).grown h hs (fun k e => by cases e; exact hB)
theorem laidOutL : laidOutB Tryz.prog = true := by kernel_rfl
theorem cu64L : Tryz.prog.cellsOf 26 = 1 := by kernel_rfl
theorem cstrL : Tryz.prog.cellsOf 9 = 1 := by kernel_rfl
theorem ctxL : Tryz.prog.cellsOf 33 = 2 := by kernel_rfl
theorem zeroUnitL (w : World) : (zeroValue 112).run Tryz.prog w = .ok (.agg #[]) w := by kernel_rfl
theorem two_types : ∃ m, Tryz.prog.types.size = m + 2 := ⟨Tryz.prog.types.size - 2, by have : 1 < Tryz.prog.types.size := of_decide_eq_true (by kernel_rfl); omega⟩
theorem wf64 {i : Nat} (h : i < 18446744073709551616) : (Lit.int .u64 (i : Nat)).wf = true := by simp [Lit.wf, IntKind.min, IntKind.max, IntKind.signed, IntKind.bits]; omega

theorem keyedTx : Keyed Tryz.prog 33 :=
  Keyed.of_law (deep_law_laid laidOutL (m := 2) (by omega) (of_decide_eq_true (by kernel_rfl)) (by kernel_rfl) (by rw [Tryz.underlying33]))
theorem keyTypeTx : Tryz.prog.keyType 33 = true := by kernel_rfl
theorem formedTx {c0 c1 : Value} : (Value.agg #[c0, c1]).formed Tryz.prog 33 = true := by simp [Value.formed, Tryz.underlying33, ctxL]
theorem keyTx_some (t : Tx) (h : okX t) : (keyOf Tryz.prog 33 (txV t)).isSome = true := by
  have w1 := wf64 h.1
  have w2 := wf64 h.2
  obtain ⟨m, hm⟩ := two_types
  unfold keyOf txV
  rw [Tryz.underlying33]
  simp only [keyTypeTx, formedTx, Bool.and_self, ↓reduceIte, Option.isSome_map]
  unfold Program.keyLits
  rw [Tryz.underlying33, hm]
  simp [Program.keyLits, Tryz.underlying26, ctxL, cu64L, Value.cells, w1, w2]
/-- A transaction's key. -/
noncomputable def ktx (t : Tx) : Lit := (keyOf Tryz.prog 33 (txV t)).getD (.bool false)
theorem keyTx (t : Tx) (h : okX t) : keyOf Tryz.prog 33 (.agg #[.int .u64 (t.age : Nat), .int .u64 (t.id : Nat)]) = some (ktx t) := by
  have := keyTx_some t h
  unfold ktx
  cases hk : keyOf Tryz.prog 33 (txV t)
  · rw [hk] at this; cases this
  · rfl
set_option maxRecDepth 10000 in
theorem ktx_lit (t : Tx) (h : okX t) : WideAt.IsKeyLit (ktx t) := keyedTx.key (keyTx t h)
theorem ktx_ne {t u : Tx} (h : okX t) (h2 : okX u) (hne : ¬ t = u) : ktx t ≠ ktx u := fun e => by
  have h3 := keyTx u h2
  rw [← e] at h3
  have := keyedTx.inj (keyTx t h) h3
  obtain ⟨a, i⟩ := t
  obtain ⟨b, j⟩ := u
  injection this with this
  simp at this
  exact hne (by rw [show a = b by omega, show i = j by omega])

/-- A set of transactions; what it holds. -/
abbrev SX (w : World) (b n : Nat) (D : DataW Unit) : Prop := w.ownsMap Tryz.prog 33 (unitElem (H := Unit)) b n D
theorem SX_under {w w' : World} {b n B : Nat} {D : DataW Unit} (h : SX w b n D) (hb : Below B w w') (hlt : b < B) : SX w' b n D := by
  obtain ⟨es, clock, h1, r⟩ := h
  exact ⟨es, clock, by rw [hb.block b hlt]; exact h1, r⟩
theorem SX_later {w w' : World} {b n : Nat} {D : DataW Unit} (h : SX w b n D) (hb : Below w.heap.size w w') : SX w' b n D := SX_under h hb h.lt
theorem SX_grown {w w' : World} {b n g : Nat} {D : DataW Unit} (h : SX w b n D) (hg : w.grownBy w' (some g)) (hne : b ≠ g) : SX w' b n D := by
  have hl := h.lt
  obtain ⟨es, clock, h1, r⟩ := h
  exact ⟨es, clock, by rw [hg.block b hl (by simpa using hne)]; exact h1, r⟩
def HX (D : DataW Unit) (m : Tx → Bool) : Prop := ∀ (t : Tx), okX t → Maps.has D (ktx t) = m t
set_option maxRecDepth 100000 in
set_option maxHeartbeats 4000000 in
theorem hasX_any (b n : Nat) (t : Tx) (D : DataW Unit) (m : Tx → Bool) (hx : okX t) (w : World) (hown : SX w b n D) (hD : HX D m) :
    Calls Tryz.prog 94 #[.map (some b), txV t] w fun e w' => e = .returned (.bool (m t)) ∧ Below w.heap.size w w' := by
  have hk := keyTx t hx
  have h1 := hD t hx
  obtain ⟨h, hh⟩ : ∃ h, m t = h := ⟨_, rfl⟩
  rw [hh] at h1 ⊢
  have HH := Lib.hid h1
  have HW := Lib.hid hown
  clear hD hh hown h1
  obtain ⟨ta, ti⟩ := t
  go_enter Tryz.func94, Tryz.ntmps94
  go_wp2_with (first
    | (at_lookup; refine wpList_lookup_own_unit _ rfl _ _ 128 rfl 33 112 keyedTx Tryz.underlying128 (zeroUnitL _) b n _ rfl (SX_later HW.out (by first | exact Below.refl _ _ | go_grown)) _ _ rfl hk ?_; rw [HH.out])
    | go_in)
  go_ret
  exact ⟨by first | rfl | simp, by go_grown⟩
/-- What add answers. -/
def AdX (b n : Nat) (t : Tx) (m : Tx → Bool) (w : World) (e : Ending) (w' : World) : Prop := ∃ D, e = .returned (.bool (!m t)) ∧ (∃ n', n' ≤ n + 1 ∧ SX w' b n' D) ∧ HX D (fun u => m u || decide (t = u)) ∧ w.grownBy w' (some b)
set_option maxRecDepth 100000 in
set_option maxHeartbeats 4000000 in
theorem addX_any (b n : Nat) (t : Tx) (D : DataW Unit) (m : Tx → Bool) (hx : okX t) (hn : n ≤ 35184372088832) (w : World) (hown : SX w b n D) (hD : HX D m) :
    Calls Tryz.prog 96 #[.map (some b), txV t] w (AdX b n t m w) := by
  have hk := keyTx t hx
  have hmx : n < maxLen := by unfold maxLen; omega
  have HPUT := Lib.hid (show HX (D.put (ktx t) (.agg [])) (fun u => m u || decide (t = u)) from fun u ho => by
    by_cases he : t = u
    · subst he
      rw [has_put_same hown.isMap (ktx_lit t hx)]; simp
    · rw [has_put_other (ktx_ne ho hx (fun e => he e.symm)), hD u ho]; simp [he])
  have HFIN := Lib.hid (fun (w2 w3 : World) (h2 : Below w.heap.size w w2) (h3 : w2.grownBy w3 (some b)) (hs : SX w3 b (n + 1) (D.put (ktx t) (.agg []))) => (show AdX b n t m w (.returned (.bool (!m t))) w3 from ⟨_, rfl, ⟨n + 1, Nat.le_refl _, hs⟩, HPUT.out, grown_trans (grown_of h2) h3⟩))
  have HC := Lib.hid (fun w' (hb : Below w.heap.size w w') => hasX_any b n t D m hx w' (SX_later hown hb) hD)
  have HW := Lib.hid hown
  obtain ⟨r, hr⟩ : ∃ r, m t = r := ⟨_, rfl⟩
  rw [hr] at HC HFIN
  have HB := Lib.hid (Below.refl w.heap.size w)
  clear hD hown hr HPUT
  obtain ⟨ta, ti⟩ := t
  obtain ⟨W, hW⟩ : ∃ W, w.alloc (.cells #[.int .u64 (ta : Nat), .int .u64 (ti : Nat)] 33) = W := ⟨_, rfl⟩
  have HB := Lib.hid (show Below w.heap.size w W from hW ▸ (Below.refl _ _).alloc (Nat.le_refl _) _)
  obtain ⟨lt, c0, c1⟩ : w.heap.size < W.heap.size ∧ W.cell? ⟨w.heap.size, 0, none⟩ = some (.int .u64 (ta : Nat)) ∧ W.cell? ⟨w.heap.size, 1, none⟩ = some (.int .u64 (ti : Nat)) := by subst hW; exact ⟨by simp, by simp [go_sem], by simp [go_sem]⟩
  have HCS := Lib.hid (And.intro lt (show W.cell? ⟨w.heap.size, 0, none⟩ = some (.int .u64 (ta : Nat)) ∧ W.cell? ⟨w.heap.size, 1, none⟩ = some (.int .u64 (ti : Nat)) from ⟨c0, c1⟩))
  have HWW := Lib.hid hW
  clear lt hW
  obtain ⟨x3, hx3⟩ : ∃ x, w.heap.size = x := ⟨_, rfl⟩
  have HX3 := Lib.hid hx3
  rw [hx3] at c0 c1 HCS
  clear hx3
  go_enter Tryz.func96, Tryz.ntmps96
  go_wp2_with fail
  try rw [HWW.out]
  try rw [HX3.out]
  refine (HC.out _ HB.out).mono ?_
  rintro e w2 ⟨rfl, hb2⟩
  have HB2 := Lib.hid (HB.out.trans (hb2.mono HB.out.size))
  obtain ⟨lt, c0, c1⟩ := HCS.out
  have d := fun i v (e : W.cell? ⟨x3, i, none⟩ = some v) => (hb2.cell (p := ⟨x3, i, none⟩) lt).trans e
  replace c0 := d _ _ c0; replace c1 := d _ _ c1
  clear d lt
  clear hb2
  go_wp2_with (at_mapUpdate; refine wpList_mapUpdate_own _ rfl _ _ _ 128 rfl 33 112 keyedTx Tryz.underlying128 (unitElem (H := Unit)) b n _ rfl (SX_later HW.out HB2.out) hmx _ _ _ rfl rfl hk _ [] unitElem_mk ?_; intro w3 hown3 hgrow3)
  go_ret
  exact HFIN.out w2 w3 HB2.out hgrow3 hown3
end Go.Proofs.YthgnecggdlamfaaGreat
/- Elder, Has; the closures of Ask and Has: the program's. -/
namespace Go.Proofs.YthgnecggdlamfaaGreat
open Go.RowKit

set_option maxHeartbeats 1000000 in
theorem pElder_any (a b : Tx) (w : World) : Calls Tryz.prog 95 #[txV a, txV b] w fun e w' => e = .returned (.bool (eldT a b)) ∧ Below w.heap.size w w' := by
  obtain ⟨a1, a2⟩ := a
  obtain ⟨b1, b2⟩ := b
  obtain ⟨r, hr⟩ : ∃ r, eldT ⟨a1, a2⟩ ⟨b1, b2⟩ = r := ⟨_, rfl⟩
  rw [hr]
  have HW := Lib.hid (show Below w.heap.size w ((w.alloc (.cells #[.int .u64 (a1 : Nat), .int .u64 (a2 : Nat)] 33)).alloc (.cells #[.int .u64 (b1 : Nat), .int .u64 (b2 : Nat)] 33)) by go_grown)
  by_cases h : a1 = b1
  · subst h
    by_cases h2 : a2 < b2
    · obtain rfl : r = true := by rw [← hr]; simp [eldT, h2]
      have g : (a2 : Int) < (b2 : Int) := by omega
      clear hr
      go_enter Tryz.func95, Tryz.ntmps95
      go_wp2_with fail
      go_ret
      exact ⟨by first | rfl | simp, HW.out⟩
    · obtain rfl : r = false := by rw [← hr]; simp [eldT, h2]
      have g : ¬ (a2 : Int) < (b2 : Int) := by omega
      clear hr
      go_enter Tryz.func95, Tryz.ntmps95
      go_wp2_with fail
      go_ret
      exact ⟨by first | rfl | simp, HW.out⟩
  · have g0 := int_ne h
    by_cases h2 : a1 < b1
    · obtain rfl : r = true := by rw [← hr]; simp [eldT, h, h2]
      have g : (a1 : Int) < (b1 : Int) := by omega
      clear hr
      go_enter Tryz.func95, Tryz.ntmps95
      go_wp2_with fail
      go_ret
      exact ⟨by first | rfl | simp, HW.out⟩
    · obtain rfl : r = false := by rw [← hr]; simp [eldT, h, h2]
      have g : ¬ (a1 : Int) < (b1 : Int) := by omega
      clear hr
      go_enter Tryz.func95, Tryz.ntmps95
      go_wp2_with fail
      go_ret
      exact ⟨by first | rfl | simp, HW.out⟩
set_option maxRecDepth 100000 in
set_option maxHeartbeats 2000000 in
theorem has1_any (x : Ho) (h1 h2 h3 : Nat) (t : Tx) (key : ByteArray) (wb : Bool) (w : World) (H1 : TxBox w h1 t) (H2 : B1 w h2 (.string key)) (H3 : B1 w h3 (.bool wb)) :
    Calls Tryz.prog 92 #[hoV x, .pointer (some ⟨h1, 0, none⟩), .pointer (some ⟨h2, 0, none⟩), .pointer (some ⟨h3, 0, none⟩)] w fun e w' => e = .returned (.bool (decide (x.t = t) && (decide (x.key = key) && (x.wr || !wb)))) ∧ Below w.heap.size w w' := by
  obtain ⟨xk, ⟨xa, xi⟩, xw⟩ := x
  obtain ⟨ta, ti⟩ := t
  have BV : Below w.heap.size w (w.alloc (.cells #[.string xk, .int .u64 (xa : Nat), .int .u64 (xi : Nat), .bool xw] 54)) := (Below.refl _ _).alloc (Nat.le_refl _) _
  obtain ⟨_, q0, q1⟩ := H1.later BV
  obtain ⟨k0, _⟩ := H2.later BV
  obtain ⟨b0, _⟩ := H3.later BV
  have HB := Lib.hid BV
  clear H1 H2 H3 BV
  simp only at q0 q1
  by_cases he : (⟨xa, xi⟩ : Tx) = ⟨ta, ti⟩
  · cases he
    by_cases he2 : xk = key
    · subst he2
      rw [decide_eq_true rfl, decide_eq_true rfl, Bool.true_and, Bool.true_and]
      cases xw <;> cases wb
      all_goals
        go_enter Tryz.func92, Tryz.ntmps92
        go_wp2_with fail
        go_ret
        exact ⟨by first | rfl | simp, HB.out⟩
    · have g1 := ba_ne he2
      have g2 := ba_ne' he2
      rw [decide_eq_false he2, Bool.false_and, Bool.and_false]
      go_enter Tryz.func92, Tryz.ntmps92
      go_wp2_with fail
      go_ret
      exact ⟨by first | rfl | simp, HB.out⟩
  · rw [decide_eq_false he, Bool.false_and]
    rcases tx_ne he with g | ⟨rfl, g⟩
    all_goals
      go_enter Tryz.func92, Tryz.ntmps92
      go_wp2_with fail
      go_ret
      exact ⟨by first | rfl | simp, HB.out⟩
set_option maxRecDepth 100000 in
set_option maxHeartbeats 2000000 in
theorem ask1_any (x : Ho) (h1 h2 : Nat) (t : Tx) (key : ByteArray) (w : World) (H1 : TxBox w h1 t) (H2 : B1 w h2 (.string key)) :
    Calls Tryz.prog 81 #[hoV x, .pointer (some ⟨h1, 0, none⟩), .pointer (some ⟨h2, 0, none⟩)] w fun e w' => e = .returned (.bool (decide (x.t = t) && decide (x.key = key))) ∧ Below w.heap.size w w' := by
  obtain ⟨xk, ⟨xa, xi⟩, xw⟩ := x
  obtain ⟨ta, ti⟩ := t
  have BV : Below w.heap.size w (w.alloc (.cells #[.string xk, .int .u64 (xa : Nat), .int .u64 (xi : Nat), .bool xw] 54)) := (Below.refl _ _).alloc (Nat.le_refl _) _
  obtain ⟨_, q0, q1⟩ := H1.later BV
  obtain ⟨k0, _⟩ := H2.later BV
  have HB := Lib.hid BV
  clear H1 H2 BV
  simp only at q0 q1
  by_cases he : (⟨xa, xi⟩ : Tx) = ⟨ta, ti⟩
  · cases he
    by_cases he2 : xk = key
    · subst he2
      rw [decide_eq_true rfl, decide_eq_true rfl, Bool.true_and]
      go_enter Tryz.func81, Tryz.ntmps81
      go_wp2_with fail
      go_ret
      exact ⟨by first | rfl | simp, HB.out⟩
    · have g1 := ba_ne he2
      have g2 := ba_ne' he2
      rw [decide_eq_false he2, Bool.and_false]
      go_enter Tryz.func81, Tryz.ntmps81
      go_wp2_with fail
      go_ret
      exact ⟨by first | rfl | simp, HB.out⟩
  · rw [decide_eq_false he, Bool.false_and]
    rcases tx_ne he with g | ⟨rfl, g⟩
    all_goals
      go_enter Tryz.func81, Tryz.ntmps81
      go_wp2_with fail
      go_ret
      exact ⟨by first | rfl | simp, HB.out⟩
set_option maxRecDepth 100000 in
set_option maxHeartbeats 2000000 in
theorem ask2_any (x : Ho) (h1 h2 h3 : Nat) (t : Tx) (key : ByteArray) (wb : Bool) (w : World) (H1 : TxBox w h1 t) (H2 : B1 w h2 (.string key)) (H3 : B1 w h3 (.bool wb)) :
    Calls Tryz.prog 82 #[hoV x, .pointer (some ⟨h2, 0, none⟩), .pointer (some ⟨h1, 0, none⟩), .pointer (some ⟨h3, 0, none⟩)] w fun e w' => e = .returned (.bool (inW x t key wb)) ∧ Below w.heap.size w w' := by
  obtain ⟨xk, ⟨xa, xi⟩, xw⟩ := x
  obtain ⟨ta, ti⟩ := t
  have BV : Below w.heap.size w (w.alloc (.cells #[.string xk, .int .u64 (xa : Nat), .int .u64 (xi : Nat), .bool xw] 54)) := (Below.refl _ _).alloc (Nat.le_refl _) _
  obtain ⟨_, q0, q1⟩ := H1.later BV
  obtain ⟨k0, _⟩ := H2.later BV
  obtain ⟨b0, _⟩ := H3.later BV
  have HB := Lib.hid BV
  clear H1 H2 H3 BV
  simp only at q0 q1
  unfold inW
  by_cases he2 : xk = key
  · subst he2
    by_cases he : (⟨xa, xi⟩ : Tx) = ⟨ta, ti⟩
    · cases he
      simp only [decide_true, Bool.true_and, Bool.not_true, Bool.false_and]
      go_enter Tryz.func82, Tryz.ntmps82
      go_wp2_with fail
      go_ret
      exact ⟨by first | rfl | simp, HB.out⟩
    · simp only [decide_true, decide_eq_false he, Bool.true_and, Bool.not_false]
      rcases tx_ne he with g | ⟨rfl, g⟩
      all_goals
        cases xw <;> cases wb
        all_goals
          go_enter Tryz.func82, Tryz.ntmps82
          go_wp2_with fail
          go_ret
          exact ⟨by first | rfl | simp, HB.out⟩
  · have g1 := ba_ne he2
    have g2 := ba_ne' he2
    simp only [decide_eq_false he2, Bool.false_and]
    go_enter Tryz.func82, Tryz.ntmps82
    go_wp2_with fail
    go_ret
    exact ⟨by first | rfl | simp, HB.out⟩
theorem hasH_any (t : Tx) (key : ByteArray) (wb : Bool) : ∀ L : List Ho, hasH t key wb L = L.any fun x => decide (x.t = t) && (decide (x.key = key) && (x.wr || !wb))
  | [] => rfl
  | x :: r => by rw [hasH, hasH_any t key wb r, List.any_cons]
theorem fsG_any {α : Type} {f : α → Bool} {L : List α} {k : Int} (h : FsG f L k) : L.any f = decide (0 ≤ k) := by
  rcases h with ⟨rfl, h⟩ | ⟨j, x, rfl, hx, hf, _⟩
  · rw [List.any_eq_false.2 (fun x hx => by rw [h x hx]; simp)]; rfl
  · rw [List.any_eq_true.2 ⟨x, List.mem_of_getElem? hx, hf⟩, decide_eq_true (by omega)]
set_option maxRecDepth 100000 in
set_option maxHeartbeats 1000000 in
theorem contains_any (fn : Nat) (caps : Array Value) (f : Ho → Bool) (n c : Nat) (a : Option Addr) (L : List Ho) (hn : L.length = n) (hl : n ≤ 140737488351232) (hs : smallH L) (w : World) (hR : ∀ (x : Ho) (w : World), (callFunc fn (#[.agg #[.string x.key, .int .u64 (x.t.age : Nat), .int .u64 (x.t.id : Nat), .bool x.wr]] ++ caps)).run Tryz.prog w = .ok (.enter fn (#[.agg #[.string x.key, .int .u64 (x.t.age : Nat), .int .u64 (x.t.id : Nat), .bool x.wr]] ++ caps)) w) (H : ClF fn caps f w) (hM : Hos w a L) :
    Calls Tryz.prog 18 #[.slice a n c, .func (.func fn) #[] caps] w fun e w' => e = .returned (.bool (L.any f)) ∧ Below w.heap.size w w' := by
  have HI := Lib.hid (index_any fn caps f n c a L hn hl hs w hR H hM)
  clear hn H hM hR hs
  go_enter Tryz.func18, Tryz.ntmps18
  go_wp2_with fail
  refine HI.out.mono ?_
  rintro e w2 ⟨⟨k, rfl, hk⟩, hb2⟩
  have HQ := Lib.hid (fsG_any hk)
  have HB2 := Lib.hid hb2
  clear hk hb2
  by_cases h0 : (0 : Int) ≤ k
  · have HQ2 := Lib.hid (HQ.out.trans (decide_eq_true h0))
    go_wp2_with fail
    go_ret
    exact ⟨by rw [HQ2.out]; first | rfl | (simp; omega), HB2.out⟩
  · have HQ2 := Lib.hid (HQ.out.trans (decide_eq_false h0))
    go_wp2_with fail
    go_ret
    exact ⟨by rw [HQ2.out]; first | rfl | (simp; omega), HB2.out⟩
theorem has1_run (p1 p2 p3 : Value) (x : Ho) (w : World) : (callFunc 92 (#[.agg #[.string x.key, .int .u64 (x.t.age : Nat), .int .u64 (x.t.id : Nat), .bool x.wr]] ++ #[p1, p2, p3])).run Tryz.prog w = .ok (.enter 92 (#[.agg #[.string x.key, .int .u64 (x.t.age : Nat), .int .u64 (x.t.id : Nat), .bool x.wr]] ++ #[p1, p2, p3])) w := by kernel_rfl
theorem ask1_run (p1 p2 : Value) (x : Ho) (w : World) : (callFunc 81 (#[.agg #[.string x.key, .int .u64 (x.t.age : Nat), .int .u64 (x.t.id : Nat), .bool x.wr]] ++ #[p1, p2])).run Tryz.prog w = .ok (.enter 81 (#[.agg #[.string x.key, .int .u64 (x.t.age : Nat), .int .u64 (x.t.id : Nat), .bool x.wr]] ++ #[p1, p2])) w := by kernel_rfl
set_option maxRecDepth 100000 in
set_option maxHeartbeats 1000000 in
theorem pHas_any (n c : Nat) (a : Option Addr) (L : List Ho) (t : Tx) (key : ByteArray) (wb : Bool) (hn : L.length = n) (hl : n ≤ 140737488351232) (hs : smallH L) (w : World) (hM : Hos w a L) :
    Calls Tryz.prog 77 #[.slice a n c, txV t, .string key, .bool wb] w fun e w' => e = .returned (.bool (hasH t key wb L)) ∧ Below w.heap.size w w' := by
  rw [hasH_any]
  obtain ⟨ta, ti⟩ := t
  obtain ⟨W, hW⟩ : ∃ W, ((w.alloc (.cells #[.int .u64 (ta : Nat), .int .u64 (ti : Nat)] 33)).alloc (.cells #[.string key] 9)).alloc (.cells #[.bool wb] 4) = W := ⟨_, rfl⟩
  have hB : Below w.heap.size w W := by subst hW; go_grown
  have h1 : TxBox W w.heap.size ⟨ta, ti⟩ := by subst hW; exact ⟨by simp; omega, by simp [go_sem], by simp [go_sem]⟩
  have h2 : B1 W (w.heap.size + 1) (.string key) := by subst hW; exact ⟨by simp [go_sem], by simp⟩
  have h3 : B1 W (w.heap.size + 2) (.bool wb) := by subst hW; exact ⟨by simp [go_sem], by simp⟩
  have HC := Lib.hid (contains_any 92 #[.pointer (some ⟨w.heap.size, 0, none⟩), .pointer (some ⟨w.heap.size + 1, 0, none⟩), .pointer (some ⟨w.heap.size + 2, 0, none⟩)] _ n c a L hn hl hs W (has1_run _ _ _) (fun x w' _ hb => has1_any x _ _ _ ⟨ta, ti⟩ key wb w' (h1.later hb) (h2.later hb) (h3.later hb)) (hM.later hB))
  have HB := Lib.hid hB
  have HW := Lib.hid hW
  clear hn hM hB h1 h2 h3 hW hs
  go_enter Tryz.func77, Tryz.ntmps77
  go_wp2_with fail
  try rw [HW.out]
  refine HC.out.mono ?_
  rintro e w2 ⟨rfl, hb2⟩
  have HB2 := Lib.hid (HB.out.trans (hb2.mono HB.out.size))
  clear hb2
  go_wp2_with fail
  go_ret
  exact ⟨rfl, HB2.out⟩
end Go.Proofs.YthgnecggdlamfaaGreat
