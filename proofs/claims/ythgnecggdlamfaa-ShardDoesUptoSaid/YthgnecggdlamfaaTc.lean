/- The program's sets: of keys, of transactions, of owners. -/
import Derived.Test.YthgnecggdlamfaaNd
import Derived.DeepKeys4
import Derived.Maps.OwnSet
import Derived.StringKeys
import Derived.Test.YthgnecggdlamfaaTa
import Derived.Test.YthgnecggdlamfaaHk
import Derived.Test.YthgnecggdlamfaaYi
namespace Go.Proofs.Ythgnecggdlamfaa
open Go.RowKit Go.Maps

theorem grown_of {w w' : World} {b : Nat} (hb : Below w.heap.size w w') : w.grownBy w' (some b) := ⟨hb.os, hb.tape, hb.output, hb.size, fun k hk _ => hb.block k hk⟩
theorem grown_trans {w w1 w2 : World} {g : Nat} (h1 : w.grownBy w1 (some g)) (h2 : w1.grownBy w2 (some g)) : w.grownBy w2 (some g) :=
  ⟨h2.os.trans h1.os, h2.tape.trans h1.tape, h2.output.trans h1.output, Nat.le_trans h1.size h2.size, fun k hk hne => (h2.block k (Nat.lt_of_lt_of_le hk h1.size) hne).trans (h1.block k hk hne)⟩
theorem below_of {w w' : World} {b B : Nat} (hB : B ≤ b) (hs : B ≤ w.heap.size) (h : w.grownBy w' (some b)) : Below B w w' := (Below.refl B w).grown h hs (fun k e => by cases e; exact hB)
theorem laidOutL : laidOutB Try.prog = true := by kernel_rfl
theorem cu64L : Try.prog.cellsOf 26 = 1 := by kernel_rfl
theorem cstrL : Try.prog.cellsOf 9 = 1 := by kernel_rfl
theorem ctxL : Try.prog.cellsOf 30 = 2 := by kernel_rfl
theorem zeroUnitL (w : World) : (zeroValue 113).run Try.prog w = .ok (.agg #[]) w := by kernel_rfl
theorem two_types : ∃ m, Try.prog.types.size = m + 2 := ⟨Try.prog.types.size - 2, by have : 1 < Try.prog.types.size := of_decide_eq_true (by kernel_rfl); omega⟩
theorem wf64 {i : Nat} (h : i < 18446744073709551616) : (Lit.int .u64 (i : Nat)).wf = true := by simp [Lit.wf, IntKind.min, IntKind.max, IntKind.signed, IntKind.bits]; omega

theorem keyedTx : Keyed Try.prog 30 :=
  Keyed.of_law (deep_law_laid laidOutL (m := 2) (by omega) (of_decide_eq_true (by kernel_rfl)) (by kernel_rfl) (by rw [Try.underlying30]))
theorem keyTypeTx : Try.prog.keyType 30 = true := by kernel_rfl
theorem formedTx {c0 c1 : Value} : (Value.agg #[c0, c1]).formed Try.prog 30 = true := by simp [Value.formed, Try.underlying30, ctxL]
theorem keyTx_some (t : Tx) (h : okX t) : (keyOf Try.prog 30 (txV t)).isSome = true := by
  have w1 := wf64 h.1
  have w2 := wf64 h.2
  obtain ⟨m, hm⟩ := two_types
  unfold keyOf txV
  rw [Try.underlying30]
  simp only [keyTypeTx, formedTx, Bool.and_self, ↓reduceIte, Option.isSome_map]
  unfold Program.keyLits
  rw [Try.underlying30, hm]
  simp [Program.keyLits, Try.underlying26, ctxL, cu64L, Value.cells, w1, w2]
/-- A transaction's key. -/
noncomputable def ktx (t : Tx) : Lit := (keyOf Try.prog 30 (txV t)).getD (.bool false)
theorem keyTx (t : Tx) (h : okX t) : keyOf Try.prog 30 (.agg #[.int .u64 (t.age : Nat), .int .u64 (t.id : Nat)]) = some (ktx t) := by
  have := keyTx_some t h
  unfold ktx
  cases hk : keyOf Try.prog 30 (txV t)
  · rw [hk] at this; cases this
  · rfl
set_option maxRecDepth 10000 in
theorem ktx_lit (t : Tx) (h : okX t) : WideAt.IsKeyLit (ktx t) := keyedTx.key (keyTx t h)
theorem ktx_ne {t u : Tx} (h : okX t) (h2 : okX u) (hne : ¬ t = u) : ktx t ≠ ktx u := fun e => by
  have h3 := keyTx u h2
  rw [← e] at h3
  have := keyedTx.inj (keyTx t h) h3
  obtain ⟨a, i⟩ := t
  obtain ⟨b, j⟩ := u
  injection this with this
  simp at this
  exact hne (by rw [show a = b by omega, show i = j by omega])

/-- A set of transactions; what it holds. -/
abbrev SX (w : World) (b n : Nat) (D : DataW Unit) : Prop := w.ownsMap Try.prog 30 (unitElem (H := Unit)) b n D
theorem SX_under {w w' : World} {b n B : Nat} {D : DataW Unit} (h : SX w b n D) (hb : Below B w w') (hlt : b < B) : SX w' b n D := by
  obtain ⟨es, clock, h1, r⟩ := h
  exact ⟨es, clock, by rw [hb.block b hlt]; exact h1, r⟩
theorem SX_later {w w' : World} {b n : Nat} {D : DataW Unit} (h : SX w b n D) (hb : Below w.heap.size w w') : SX w' b n D := SX_under h hb h.lt
theorem SX_grown {w w' : World} {b n g : Nat} {D : DataW Unit} (h : SX w b n D) (hg : w.grownBy w' (some g)) (hne : b ≠ g) : SX w' b n D := by
  have hl := h.lt
  obtain ⟨es, clock, h1, r⟩ := h
  exact ⟨es, clock, by rw [hg.block b hl (by simpa using hne)]; exact h1, r⟩
def HX (D : DataW Unit) (m : Tx → Bool) : Prop := ∀ (t : Tx), okX t → Maps.has D (ktx t) = m t
set_option maxRecDepth 100000 in
set_option maxHeartbeats 4000000 in
theorem hasX_any (b n : Nat) (t : Tx) (D : DataW Unit) (m : Tx → Bool) (hx : okX t) (w : World) (hown : SX w b n D) (hD : HX D m) :
    Calls Try.prog 81 #[.map (some b), txV t] w fun e w' => e = .returned (.bool (m t)) ∧ Below w.heap.size w w' := by
  have hk := keyTx t hx
  have h1 := hD t hx
  obtain ⟨h, hh⟩ : ∃ h, m t = h := ⟨_, rfl⟩
  rw [hh] at h1 ⊢
  have HH := Lib.hid h1
  have HW := Lib.hid hown
  clear hD hh hown h1
  obtain ⟨ta, ti⟩ := t
  go_enter Try.func81, Try.ntmps81
  go_wp2_with (first
    | (at_lookup; refine wpList_lookup_own_unit _ rfl _ _ 126 rfl 30 113 keyedTx Try.underlying126 (zeroUnitL _) b n _ rfl (SX_later HW.out (by first | exact Below.refl _ _ | go_grown)) _ _ rfl hk ?_; rw [HH.out])
    | go_in)
  go_ret
  exact ⟨by first | rfl | simp, by go_grown⟩
/-- What add answers. -/
def AdX (b n : Nat) (t : Tx) (m : Tx → Bool) (w : World) (e : Ending) (w' : World) : Prop := ∃ D, e = .returned (.bool (!m t)) ∧ (∃ n', n' ≤ n + 1 ∧ SX w' b n' D) ∧ HX D (fun u => m u || decide (t = u)) ∧ w.grownBy w' (some b)
set_option maxRecDepth 100000 in
set_option maxHeartbeats 4000000 in
theorem addX_any (b n : Nat) (t : Tx) (D : DataW Unit) (m : Tx → Bool) (hx : okX t) (hn : n ≤ 35184372088832) (w : World) (hown : SX w b n D) (hD : HX D m) :
    Calls Try.prog 83 #[.map (some b), txV t] w (AdX b n t m w) := by
  have hk := keyTx t hx
  have hmx : n < maxLen := by unfold maxLen; omega
  have HPUT := Lib.hid (show HX (D.put (ktx t) (.agg [])) (fun u => m u || decide (t = u)) from fun u ho => by
    by_cases he : t = u
    · subst he
      rw [has_put_same hown.isMap (ktx_lit t hx)]; simp
    · rw [has_put_other (ktx_ne ho hx (fun e => he e.symm)), hD u ho]; simp [he])
  have HFIN := Lib.hid (fun (w2 w3 : World) (h2 : Below w.heap.size w w2) (h3 : w2.grownBy w3 (some b)) (hs : SX w3 b (n + 1) (D.put (ktx t) (.agg []))) => (show AdX b n t m w (.returned (.bool (!m t))) w3 from ⟨_, rfl, ⟨n + 1, Nat.le_refl _, hs⟩, HPUT.out, grown_trans (grown_of h2) h3⟩))
  have HC := Lib.hid (fun w' (hb : Below w.heap.size w w') => hasX_any b n t D m hx w' (SX_later hown hb) hD)
  have HW := Lib.hid hown
  obtain ⟨r, hr⟩ : ∃ r, m t = r := ⟨_, rfl⟩
  rw [hr] at HC HFIN
  have HB := Lib.hid (Below.refl w.heap.size w)
  clear hD hown hr HPUT
  obtain ⟨ta, ti⟩ := t
  obtain ⟨W, hW⟩ : ∃ W, w.alloc (.cells #[.int .u64 (ta : Nat), .int .u64 (ti : Nat)] 30) = W := ⟨_, rfl⟩
  have HB := Lib.hid (show Below w.heap.size w W from hW ▸ (Below.refl _ _).alloc (Nat.le_refl _) _)
  obtain ⟨lt, c0, c1⟩ : w.heap.size < W.heap.size ∧ W.cell? ⟨w.heap.size, 0, none⟩ = some (.int .u64 (ta : Nat)) ∧ W.cell? ⟨w.heap.size, 1, none⟩ = some (.int .u64 (ti : Nat)) := by subst hW; exact ⟨by simp, by simp [go_sem], by simp [go_sem]⟩
  have HCS := Lib.hid (And.intro lt (show W.cell? ⟨w.heap.size, 0, none⟩ = some (.int .u64 (ta : Nat)) ∧ W.cell? ⟨w.heap.size, 1, none⟩ = some (.int .u64 (ti : Nat)) from ⟨c0, c1⟩))
  have HWW := Lib.hid hW
  clear lt hW
  obtain ⟨x3, hx3⟩ : ∃ x, w.heap.size = x := ⟨_, rfl⟩
  have HX3 := Lib.hid hx3
  rw [hx3] at c0 c1 HCS
  clear hx3
  go_enter Try.func83, Try.ntmps83
  go_wp2_with fail
  try rw [HWW.out]
  try rw [HX3.out]
  refine (HC.out _ HB.out).mono ?_
  rintro e w2 ⟨rfl, hb2⟩
  have HB2 := Lib.hid (HB.out.trans (hb2.mono HB.out.size))
  obtain ⟨lt, c0, c1⟩ := HCS.out
  have d := fun i v (e : W.cell? ⟨x3, i, none⟩ = some v) => (hb2.cell (p := ⟨x3, i, none⟩) lt).trans e
  replace c0 := d _ _ c0; replace c1 := d _ _ c1
  clear d lt
  clear hb2
  go_wp2_with (at_mapUpdate; refine wpList_mapUpdate_own _ rfl _ _ _ 126 rfl 30 113 keyedTx Try.underlying126 (unitElem (H := Unit)) b n _ rfl (SX_later HW.out HB2.out) hmx _ _ _ rfl rfl hk _ [] unitElem_mk ?_; intro w3 hown3 hgrow3)
  go_ret
  exact HFIN.out w2 w3 HB2.out hgrow3 hown3
end Go.Proofs.Ythgnecggdlamfaa
/- Sets of keys: add; the keys that puts write: the program's crowded's own function. -/
namespace Go.Proofs.Ythgnecggdlamfaa
open Go.RowKit Go.Maps

/-- A set of keys; each once. -/
def KS (w : World) (b n : Nat) (K : List ByteArray) : Prop := ∃ D : DataW Unit, SM w b n D ∧ Maps.size D = K.length ∧ ∀ x : ByteArray, Maps.has D (.string x.data.toList) = memK x K
theorem KS.lt {w : World} {b n : Nat} {K : List ByteArray} (h : KS w b n K) : b < w.heap.size := by obtain ⟨D, h, _⟩ := h; exact h.lt
theorem KS.under {w w' : World} {b n B : Nat} {K : List ByteArray} (h : KS w b n K) (hb : Below B w w') (hlt : b < B) : KS w' b n K := by
  obtain ⟨D, h1, r⟩ := h
  exact ⟨D, sm_under h1 hb hlt, r⟩
theorem KS.later {w w' : World} {b n : Nat} {K : List ByteArray} (h : KS w b n K) (hb : Below w.heap.size w w') : KS w' b n K := h.under hb h.lt
theorem KS.grown {w w' : World} {b n g : Nat} {K : List ByteArray} (h : KS w b n K) (hg : w.grownBy w' (some g)) (hne : b ≠ g) : KS w' b n K := by
  have hl := h.lt
  obtain ⟨D, ⟨es, clock, h1, r⟩, r2⟩ := h
  exact ⟨D, ⟨es, clock, by rw [hg.block b hl (by simpa using hne)]; exact h1, r⟩, r2⟩
/-- No cell lies in a set. -/
theorem KS.cell {w : World} {b n : Nat} {K : List ByteArray} (h : KS w b n K) {p : Addr} {v : Value} (hc : w.cell? p = some v) : p.block ≠ b := by
  obtain ⟨D, ⟨es, clock, h1, _⟩, _⟩ := h
  intro e
  unfold World.cell? at hc
  rw [e, h1] at hc
  simp at hc
theorem KS.nb {α : Type} {k : Nat} {f : α → List Value} {w : World} {b n : Nat} {K : List ByteArray} (h : KS w b n K) {a : Option Addr} {L : List α} (hM : Rw k f w a L) (hf : ∀ x, 0 < (f x).length) : NB a L.length b := by
  intro h0 q hq
  obtain ⟨b', off, e, _, c⟩ := hM 0 L[0] (List.getElem?_eq_getElem h0)
  rw [hq] at e
  cases e
  have c0 := c 0 _ (List.getElem?_eq_getElem (hf L[0]))
  simp only [Nat.zero_mul, Nat.add_zero] at c0
  exact h.cell c0
theorem memK_add (l : List ByteArray) (k x : ByteArray) : memK x (addK l k) = (memK x l || decide (k = x)) := by
  have h := addK_mem l k x
  rw [Bool.eq_iff_iff, memK_iff, h, Bool.or_eq_true, memK_iff, decide_eq_true_eq]
  exact or_congr_right ⟨Eq.symm, Eq.symm⟩
set_option maxRecDepth 100000 in
set_option maxHeartbeats 4000000 in
theorem addKS_any (b n : Nat) (x : ByteArray) (K : List ByteArray) (hx : x.size ≤ 140737488351232) (hn : n ≤ 10000000000) (w : World) (H : KS w b n K) :
    Calls Try.prog 94 #[.map (some b), .string x] w fun e w' => e = .returned (.bool (!memK x K)) ∧ KS w' b (n + 1) (addK K x) ∧ w.grownBy w' (some b) := by
  obtain ⟨D, hown, hsz, hD⟩ := H
  have hk := keyS hx
  have hmx : n < maxLen := by unfold maxLen; omega
  have HFIN := Lib.hid (fun (w2 w3 : World) (h2 : Below w.heap.size w w2) (h3 : w2.grownBy w3 (some b)) (hs : SM w3 b (n + 1) (D.put (.string x.data.toList) (.agg []))) => (show KS w3 b (n + 1) (addK K x) ∧ w.grownBy w3 (some b) from by
    refine ⟨⟨_, hs, ?_, fun y => ?_⟩, grown_trans (grown_of h2) h3⟩
    · rw [size_put (hown.tidy keyedS), hD x, hsz]
      unfold addK
      cases memK x K <;> simp
    · rw [memK_add]
      by_cases hxy : x = y
      · subst hxy; rw [has_put_same hown.isMap (litS_key x)]; simp
      · rw [has_put_other (litS_ne (Ne.symm hxy)), hD y]; simp [hxy]))
  obtain ⟨h, hh⟩ : ∃ h, memK x K = h := ⟨_, rfl⟩
  have h1 := hD x
  rw [hh] at h1 ⊢
  have HH := Lib.hid h1
  have HW := Lib.hid hown
  clear h1 hD hh hown hsz
  go_enter Try.func94, Try.ntmps94
  go_wp2_with (first
    | (at_lookup; refine wpList_lookup_own_unit _ rfl _ _ 136 rfl 9 113 keyedS Try.underlying136 (zeroUnitS _) b n _ rfl HW.out _ _ rfl hk ?_; rw [HH.out])
    | (at_mapUpdate; refine wpList_mapUpdate_own _ rfl _ _ _ 136 rfl 9 113 keyedS Try.underlying136 (unitElem (H := Unit)) b n _ rfl (sm_later HW.out (by go_grown)) hmx _ _ _ rfl rfl hk _ [] unitElem_mk ?_; intro w1 hown1 hgrow1)
    | go_in)
  go_ret
  exact ⟨by first | rfl | simp, HFIN.out _ w1 (by go_grown) hgrow1 hown1⟩
set_option maxRecDepth 100000 in
set_option maxHeartbeats 4000000 in
theorem write1_any (h b n m c : Nat) (a : Option Addr) (P : List Pu) (K : List ByteArray) (hm : P.length = m) (hl : m ≤ 140737488351232) (hs : smallP P) (hnm : n + (putK P).length ≤ 9000000000) (w : World) (H : B1 w h (.map (some b))) (HK : KS w b n K) (hP : Pus w a P) :
    Calls Try.prog 93 #[.slice a m c, .pointer (some ⟨h, 0, none⟩)] w fun e w' => e = .returned (.tuple #[]) ∧ (∃ n', n' ≤ n + (putK P).length ∧ KS w' b n' ((putK P).foldl addK K)) ∧ w.grownBy w' (some b) := by
  have HM := Lib.hid hm
  have HS := Lib.hid hs
  have HPP := Lib.hid (fun w' (hg : w.grownBy w' (some b)) => rw_grown hP hg (HK.nb hP (fun x => by simp [puC])))
  have HBX := Lib.hid (fun w' (hg : w.grownBy w' (some b)) => H.grown hg (HK.cell H.c))
  have HKK := Lib.hid HK
  clear hm hs hP H HK
  go_enter Try.func93, Try.ntmps93
  go_wp2_with fail
  go_loopw [7] (fun u wr => ∃ (k n' : Nat), k ≤ m ∧ u = .int .i64 k ∧ n' ≤ n + (putK (P.take k)).length ∧ KS wr b n' ((putK (P.take k)).foldl addK K) ∧ w.grownBy wr (some b)) (fun u _ => m - (intOf u).toNat)
  case atStart => exact ⟨0, n, Nat.zero_le _, rfl, by simp [putK], by simpa [putK] using HKK.out, grown_of (Below.refl _ _)⟩
  case round =>
    obtain ⟨k, n', hk, rfl, hn', hks, hg⟩ := hrel
    have HN := Lib.hid hn'
    have HG := Lib.hid hg
    have HO := Lib.hid hks
    clear hn' hks hg
    by_cases hlt : k < m
    · obtain ⟨x, hx⟩ : ∃ x, P[k]? = some x := ⟨_, List.getElem?_eq_getElem (by rw [HM.out]; exact hlt)⟩
      have i0 : (0 : Int) ≤ (k : Int) := by omega
      have i1 : (k : Int) < (m : Int) := by omega
      obtain ⟨s1, s2⟩ := HS.out.at hx
      have hle := putK_take_le P k
      have htk : putK (P.take (k + 1)) = putK (P.take k) ++ (if x.gone then [] else [x.key]) := by rw [takeP_snoc hx, putK_snoc]
      obtain ⟨b', off, rfl, hb, p0, p1, p2⟩ := Pus.cells (HPP.out _ HG.out) hx
      clear hx
      obtain ⟨xk, xv, xg⟩ := x
      simp only at p0 p1 p2 s1 s2 htk
      obtain ⟨W1, hW1⟩ : ∃ W1, wr.alloc (.cells #[.string xk, .string xv, .bool xg] 54) = W1 := ⟨_, rfl⟩
      obtain ⟨x5, hx5⟩ : ∃ x5, wr.heap.size = x5 := ⟨_, rfl⟩
      have BV : Below wr.heap.size wr W1 := hW1 ▸ (Below.refl _ _).alloc (Nat.le_refl _) _
      obtain ⟨v0, v1, v2, _⟩ : B3 W1 x5 (.string xk) (.string xv) (.bool xg) := hW1 ▸ B3.new hx5.symm _ _ _ _
      have HGV := Lib.hid (grown_trans HG.out (grown_of (b := b) BV))
      have HOV := Lib.hid (HO.out.later BV)
      obtain ⟨c1, _⟩ := HBX.out _ HGV.out
      clear BV
      by_cases hxg : xg = false
      · have g : (!xg) = true := by rw [hxg]; rfl
        rw [hxg] at htk
        clear hxg
        have HTK := Lib.hid (show putK (P.take (k + 1)) = putK (P.take k) ++ [xk] from htk)
        have hn2 : n' ≤ 10000000000 := by have := HN.out; omega
        have HAD := Lib.hid (addKS_any b n' xk _ s1 hn2 W1 HOV.out)
        clear htk
        go_wp2_with fail
        refine HAD.out.mono ?_
        rintro e w2 ⟨rfl, hk2, hg2⟩
        have HK2 := Lib.hid (show KS w2 b (n' + 1) ((putK (P.take (k + 1))).foldl addK K) from by rw [HTK.out, List.foldl_append]; exact hk2)
        have HN2 := Lib.hid (show n' + 1 ≤ n + (putK (P.take (k + 1))).length from by rw [HTK.out, List.length_append, List.length_singleton]; have := HN.out; omega)
        have HG2 := Lib.hid (grown_trans HGV.out hg2)
        clear hk2 hg2 p0 p1 p2 v0 v1 v2 c1
        go_wp2_with fail
        go_roundw
        case rel => exact ⟨k + 1, n' + 1, by omega, by go_num, HN2.out, HK2.out, HG2.out⟩
        case measure => simp [intOf]; omega
      · have g : (!xg) = false := by cases xg <;> simp_all
        have HTK := Lib.hid (show putK (P.take (k + 1)) = putK (P.take k) from by rw [htk]; cases xg <;> simp_all)
        clear hxg
        have HN2 := Lib.hid (show n' ≤ n + (putK (P.take (k + 1))).length from by rw [HTK.out]; exact HN.out)
        have HK2 := Lib.hid (show KS W1 b n' ((putK (P.take (k + 1))).foldl addK K) from by rw [HTK.out]; exact HOV.out)
        clear htk
        go_wp2_with fail
        go_roundw
        case rel => exact ⟨k + 1, n', by omega, by go_num, HN2.out, by first | exact HK2.out | (rw [hW1]; exact HK2.out), by first | exact HGV.out | (rw [hW1]; exact HGV.out)⟩
        case measure => simp [intOf]; omega
    · have i1 : ¬ (k : Int) < (m : Int) := by omega
      have e : P.take k = P := List.take_of_length_le (by rw [HM.out]; omega)
      have HN2 := Lib.hid (show n' ≤ n + (putK P).length from by have := HN.out; rw [e] at this; exact this)
      have HK2 := Lib.hid (show KS wr b n' ((putK P).foldl addK K) from by have := HO.out; rw [e] at this; exact this)
      clear e
      go_wp2_with fail
      go_end0
      exact ⟨rfl, ⟨n', HN2.out, HK2.out⟩, HG.out⟩
end Go.Proofs.Ythgnecggdlamfaa
