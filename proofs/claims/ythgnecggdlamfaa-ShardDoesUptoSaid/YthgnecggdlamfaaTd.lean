/- Ask: the program's. -/
import Derived.Test.YthgnecggdlamfaaNg
import Derived.Test.YthgnecggdlamfaaVm
import Derived.Test.YthgnecggdlamfaaTb
namespace Go.Proofs.Ythgnecggdlamfaa
open Go.RowKit Go.Maps

/-- A lock of one's own of a key. -/
def ownH (t : Tx) (key : ByteArray) (x : Ho) : Bool := decide (x.t = t) && decide (x.key = key)
theorem own_iff {t : Tx} {key : ByteArray} {x : Ho} : ownH t key x = true ↔ x.t = t ∧ x.key = key := by simp [ownH]
theorem own_not {t : Tx} {key : ByteArray} {x : Ho} : ownH t key x = false ↔ ¬ (x.t = t ∧ x.key = key) := by rw [← own_iff]; simp
theorem idxN_none {t : Tx} {key : ByteArray} : ∀ (L : List Ho) (i : Nat), (∀ x ∈ L, ownH t key x = false) → idxH t key i L = none
  | [], _, _ => rfl
  | x :: r, i, h => by rw [idxH, if_neg (own_not.1 (h x (by simp)))]; exact idxN_none r _ fun y hy => h y (by simp [hy])
theorem idxN_at {t : Tx} {key : ByteArray} : ∀ (L : List Ho) (i j : Nat) (x : Ho), L[j]? = some x → ownH t key x = true → (∀ k, k < j → ∀ y : Ho, L[k]? = some y → ownH t key y = false) → idxH t key i L = some (i + j)
  | [], _, j, _, h, _, _ => by simp at h
  | z :: r, i, 0, x, h, hx, _ => by
    obtain rfl : z = x := by simpa using h
    rw [idxH, if_pos (own_iff.1 hx)]; rfl
  | z :: r, i, j + 1, x, h, hx, hl => by
    rw [idxH, if_neg (own_not.1 (hl 0 (by omega) z rfl)), idxN_at r (i + 1) j x (by simpa using h) hx fun k hk y hy => hl (k + 1) (by omega) y (by simpa using hy)]
    rw [Nat.add_assoc, Nat.add_comm 1 j]
theorem raise_at {t : Tx} {key : ByteArray} : ∀ (L : List Ho) (j : Nat) (x : Ho), L[j]? = some x → ownH t key x = true → (∀ k, k < j → ∀ y : Ho, L[k]? = some y → ownH t key y = false) → raiseH t key L = L.set j ⟨x.key, x.t, true⟩
  | [], j, _, h, _, _ => by simp at h
  | z :: r, 0, x, h, hx, _ => by
    obtain rfl : z = x := by simpa using h
    rw [raiseH, if_pos (own_iff.1 hx)]; rfl
  | z :: r, j + 1, x, h, hx, hl => by
    rw [raiseH, if_neg (own_not.1 (hl 0 (by omega) z rfl)), raise_at r j x (by simpa using h) hx fun k hk y hy => hl (k + 1) (by omega) y (by simpa using hy)]
    rfl
theorem idx_some {t : Tx} {key : ByteArray} {L : List Ho} {x : Ho} (hx : x ∈ L) (h : ownH t key x = true) : ∀ i, ∃ j, idxH t key i L = some j := by
  induction L with
  | nil => simp at hx
  | cons z r ih =>
    intro i
    rw [idxH]
    by_cases hz : z.t = t ∧ z.key = key
    · exact ⟨i, if_pos hz⟩
    · rw [if_neg hz]
      rcases List.mem_cons.1 hx with e | e
      · subst e; exact absurd (own_iff.1 h) hz
      · exact ih e (i + 1)
section
variable {L : List Ho} {t : Tx} {key : ByteArray} {wr : Bool} {firm out : List Tx}
theorem ask_had (h : hadH L (idxH t key 0 L) wr = true) : askH L t key wr firm = (L, [], 0) := by unfold askH; rw [if_pos h]
theorem ask_busy (h : hadH L (idxH t key 0 L) wr = false) (hw : wayH t key wr firm [] L = none) : askH L t key wr firm = (L, [], 11) := by
  unfold askH; rw [if_neg (by rw [h]; simp), hw]
theorem way_notin (hw : wayH t key wr firm [] L = some out) : amT t out = false := by
  cases h : amT t out
  · rfl
  · rcases (way_some L [] out hw).2.2 t ((amT_iff _ _).1 h) with e | ⟨e, _⟩
    · simp at e
    · exact absurd rfl e
theorem ask_raise (h : hadH L (idxH t key 0 L) wr = false) (hw : wayH t key wr firm [] L = some out) {j : Nat} {x : Ho} (hx : (restH out L)[j]? = some x) (ho : ownH t key x = true) (hl : ∀ k, k < j → ∀ y : Ho, (restH out L)[k]? = some y → ownH t key y = false) :
    askH L t key wr firm = ((restH out L).set j ⟨x.key, x.t, true⟩, out, 0) := by
  have e := left_is (key := key) (way_notin hw) L 0
  obtain ⟨i, hi⟩ := idx_some (t := t) (key := key) (List.mem_filter.1 (List.mem_of_getElem? hx)).1 ho 0
  rw [raise_at _ j x hx ho hl, hi] at e
  rw [hi] at h
  unfold askH
  rw [hi, if_neg (by rw [h]; simp), hw]
  simp only [e, Option.isSome_some, ↓reduceIte]
theorem ask_not (h : hadH L (idxH t key 0 L) wr = false) (hw : wayH t key wr firm [] L = some out) (hn : ∀ x ∈ restH out L, ownH t key x = false) :
    askH L t key wr firm = if 48 ≤ (restH out L).length then (L, [], 5) else (restH out L ++ [⟨key, t, wr⟩], out, 0) := by
  have hi : idxH t key 0 L = none := idxN_none L 0 fun x hx => by
    cases ho : ownH t key x
    · rfl
    · rw [← hn x (List.mem_filter.2 ⟨hx, by rw [(own_iff.1 ho).1, way_notin hw]; rfl⟩)]; exact ho.symm
  rw [hi] at h
  unfold askH
  rw [hi, if_neg (by rw [h]; simp), hw]
  simp only [left_none, Bool.false_eq_true, ↓reduceIte]
end
theorem restN_len (out : List Tx) (L : List Ho) : (restH out L).length ≤ L.length := List.length_filter_le _ _
theorem rest_small {out : List Tx} {L : List Ho} (h : smallH L) : smallH (restH out L) := fun x hx => h x (List.mem_filter.1 hx).1
/-- One cell of one element stored. -/
theorem Hd.put1 {α : Type} {k bs n g : Nat} {f : α → List Value} {w : World} {C : List α} {T E : TypeId} {z : Value} (R : RowT T E k bs z f) (h : Hd E k f w g n C) {i : Nat} {x y : α} (hx : C[i]? = some x) {o : Nat} {u : Value} (hu : (f y)[o]? = some u) (hr : ∀ t, t ≠ o → (f y)[t]? = (f x)[t]?) : Hd E k f (w.setCell ⟨g, i * k + o, none⟩ u) g n (C.set i y) := by
  have hle := h.le
  have hi := (List.getElem?_eq_some_iff.1 hx).1
  have ho := (List.getElem?_eq_some_iff.1 hu).1
  rw [R.len] at ho
  have hin : i * k + k ≤ n * k := by rw [show i * k + k = (i + 1) * k by rw [Nat.add_mul]; omega]; exact Nat.mul_le_mul_right k (by omega)
  refine ⟨fun j x' hx' t u' hu' => ?_, by rw [List.length_set]; exact hle, by simpa using h.lt, hd_setCell h.ty _ _⟩
  have htl := (List.getElem?_eq_some_iff.1 hu').1
  rw [R.len] at htl
  rw [List.getElem?_set] at hx'
  show (w.setCells g (i * k + o) [u]).cell? _ = _
  by_cases e : i = j
  · subst e
    rw [if_pos rfl, if_pos hi] at hx'
    obtain rfl : y = x' := Option.some.inj hx'
    by_cases hto : t = o
    · subst hto
      have := World.cell?_setCells_in g [u] (i * k + t) w (fun a ha => h.has (by simp at ha; omega)) 0 (by simp)
      simp only [Nat.add_zero] at this
      rw [this]
      rw [hu] at hu'; rw [← hu']; rfl
    · rw [World.cell?_setCells_out g _ _ _ _ (fun _ _ => by simp only [List.length_singleton]; omega)]
      exact h.c i x hx t u' (by rw [← hr t hto]; exact hu')
  · rw [if_neg e] at hx'
    rw [World.cell?_setCells_out g _ _ _ _ (fun _ _ => by
      rcases Nat.lt_or_gt_of_ne e with h1 | h1
      · right
        have : (i + 1) * k ≤ j * k := Nat.mul_le_mul_right k h1
        rw [Nat.add_mul, Nat.one_mul] at this
        simp only [List.length_singleton]; omega
      · left
        have : (j + 1) * k ≤ i * k := Nat.mul_le_mul_right k h1
        rw [Nat.add_mul, Nat.one_mul] at this
        simp only; omega)]
    exact h.c j x' hx' t u' hu'
theorem ask2_run (p1 p2 p3 : Value) (x : Ho) (w : World) : (callFunc 63 (#[.agg #[.string x.key, .int .u64 (x.t.age : Nat), .int .u64 (x.t.id : Nat), .bool x.wr]] ++ #[p1, p2, p3])).run Try.prog w = .ok (.enter 63 (#[.agg #[.string x.key, .int .u64 (x.t.age : Nat), .int .u64 (x.t.id : Nat), .bool x.wr]] ++ #[p1, p2, p3])) w := by kernel_rfl
end Go.Proofs.Ythgnecggdlamfaa
/- Sets of transactions: add; those who must give way are told: the program's wound; the firm ones. -/
namespace Go.Proofs.Ythgnecggdlamfaa
open Go.RowKit Go.Maps

set_option maxRecDepth 100000 in
set_option maxHeartbeats 4000000 in
theorem addT_any (b n : Nat) (t : Tx) (D : DataW Unit) (m : Tx → Bool) (hx : okX t) (hn : n ≤ 35184372088832) (w : World) (hown : SX w b n D) (hD : HX D m) :
    Calls Try.prog 66 #[.map (some b), txV t] w (AdX b n t m w) := by
  have hk := keyTx t hx
  have hmx : n < maxLen := by unfold maxLen; omega
  have HPUT := Lib.hid (show HX (D.put (ktx t) (.agg [])) (fun u => m u || decide (t = u)) from fun u ho => by
    by_cases he : t = u
    · subst he
      rw [has_put_same hown.isMap (ktx_lit t hx)]; simp
    · rw [has_put_other (ktx_ne ho hx (fun e => he e.symm)), hD u ho]; simp [he])
  have HFIN := Lib.hid (fun (w2 w3 : World) (h2 : Below w.heap.size w w2) (h3 : w2.grownBy w3 (some b)) (hs : SX w3 b (n + 1) (D.put (ktx t) (.agg []))) => (show AdX b n t m w (.returned (.bool (!m t))) w3 from ⟨_, rfl, ⟨n + 1, Nat.le_refl _, hs⟩, HPUT.out, grown_trans (grown_of h2) h3⟩))
  have h1 := hD t hx
  have HW := Lib.hid (fun w' (hb : Below w.heap.size w w') => SX_later hown hb)
  obtain ⟨r, hr⟩ : ∃ r, m t = r := ⟨_, rfl⟩
  rw [hr] at HFIN h1
  have HH := Lib.hid h1
  clear hD hown hr HPUT h1
  obtain ⟨ta, ti⟩ := t
  go_enter Try.func66, Try.ntmps66
  go_wp2_with (first
    | (at_lookup; refine wpList_lookup_own_unit _ rfl _ _ 111 rfl 30 113 keyedTx Try.underlying111 (zeroUnitL _) b n _ rfl (HW.out _ (by first | exact Below.refl _ _ | go_grown)) _ _ rfl hk ?_; rw [HH.out])
    | (at_mapUpdate; refine wpList_mapUpdate_own _ rfl _ _ _ 111 rfl 30 113 keyedTx Try.underlying111 (unitElem (H := Unit)) b n _ rfl (HW.out _ (by go_grown)) hmx _ _ _ rfl rfl hk _ [] unitElem_mk ?_; intro w3 hown3 hgrow3)
    | go_in)
  go_ret
  exact HFIN.out _ w3 (by go_grown) hgrow3 hown3
/-- One told to give way if it is among these; all. -/
def wn1 (F : List Tx) (y : SopM) : SopM := ⟨⟨y.x.t, y.x.fm, y.x.wd || amT y.x.t F, y.x.puts⟩, y.a, y.c⟩
def wnM (F : List Tx) (M : List SopM) : List SopM := M.map (wn1 F)
theorem wnM_x (F : List Tx) (M : List SopM) : (wnM F M).map (fun y => y.x) = wndS F (M.map fun y => y.x) := by
  simp [wnM, wndS, wn1, Function.comp_def]
theorem wn_len (F : List Tx) (M : List SopM) (k : Nat) : (wnM F (M.take k) ++ M.drop k).length = M.length := by
  simp [wnM]; omega
theorem wn_at {F : List Tx} {M : List SopM} {k : Nat} {y : SopM} (hy : M[k]? = some y) : (wnM F (M.take k) ++ M.drop k)[k]? = some y := by
  have hk := (List.getElem?_eq_some_iff.1 hy).1
  have hl : (wnM F (M.take k)).length = k := by simp [wnM]; omega
  rw [List.getElem?_append_right (by omega), hl, Nat.sub_self, List.getElem?_drop, Nat.add_zero, hy]
theorem wn_set {F : List Tx} {M : List SopM} {k : Nat} {y : SopM} (hy : M[k]? = some y) : (wnM F (M.take k) ++ M.drop k).set k (wn1 F y) = wnM F (M.take (k + 1)) ++ M.drop (k + 1) := by
  have hk := (List.getElem?_eq_some_iff.1 hy).1
  have hl : (wnM F (M.take k)).length = k := by simp [wnM]; omega
  have hd : M.drop k = y :: M.drop (k + 1) := by
    rw [List.drop_eq_getElem_cons hk]; congr 1
    rw [List.getElem?_eq_getElem hk] at hy; exact Option.some.inj hy
  have ht : wnM F (M.take (k + 1)) = wnM F (M.take k) ++ [wn1 F y] := by rw [takeP_snoc hy]; simp [wnM]
  rw [List.set_append_right _ _ (by omega), hl, Nat.sub_self, hd, List.set_cons_zero, ht, List.append_assoc]; rfl
theorem wn_no {F : List Tx} {y : SopM} (h : amT y.x.t F = false) : wn1 F y = y := by
  obtain ⟨⟨t, f, wd, p⟩, a, c⟩ := y
  simp only at h
  simp [wn1, h]
theorem set_self {α : Type} {L : List α} {k : Nat} {x : α} (h : L[k]? = some x) : L.set k x = L := by
  obtain ⟨hk, rfl⟩ := List.getElem?_eq_some_iff.1 h
  exact List.set_getElem_self hk
/-- What wound leaves. -/
def WoP (B : Nat) (oa : Option Addr) (n oc : Nat) (F : List Tx) (M : List SopM) (w : World) (e : Ending) (w' : World) : Prop := e = .returned (.tuple #[]) ∧ Cq 48 5 sopC B w' (.slice oa n oc) (wnM F M) ∧ w.grownBy w' (oa.map fun q => q.block)
set_option maxRecDepth 100000 in
set_option maxHeartbeats 8000000 in
theorem wound_any (B n oc m d : Nat) (oa b : Option Addr) (M : List SopM) (F : List Tx) (hn : M.length = n) (hl : n ≤ 140737488351232) (hm : F.length = m) (hl2 : m * 16 ≤ 140737488351232) (ho : ∀ x ∈ F, okX x) (hoM : ∀ y ∈ M, okX y.x.t) (w : World) (_ : B ≤ w.heap.size) (hC : Cq 48 5 sopC B w (.slice oa n oc) M) (hF : Txs w b F) :
    Calls Try.prog 44 #[.slice oa n oc, .slice b m d] w (WoP B oa n oc F M w) := by
  have hmm := @run_makeMap Try.prog
  have hoc : oc ≤ maxLen := by
    obtain ⟨a', c', e, _, _, _, h⟩ := hC.form sopT
    injection e with _ _ e; rw [e]; exact h
  have hnn : 0 < n → ∃ g, oa = some ⟨g, 0, none⟩ ∧ B ≤ g ∧ g < w.heap.size := fun h0 => by
    obtain ⟨g, c', e, h1, _, _, h3⟩ := Hd.of sopT hC (by rw [hn]; exact h0)
    injection e with e _ _
    exact ⟨g, e, h1, h3.lt⟩
  have HG := Lib.hid hnn
  have HOC := Lib.hid hoc
  have HN := Lib.hid hn
  have HM := Lib.hid hm
  have HF := Lib.hid hF
  have HO := Lib.hid ho
  have HOM := Lib.hid hoM
  have HC := Lib.hid hC
  clear hn hm hF ho hoM hC hnn hoc
  go_enter Try.func44, Try.ntmps44
  go_wp2_with fail
  have HM0 := Lib.hid (show SX (w.alloc (.map #[] 0)) w.heap.size 0 (.map []) from World.ownsMap_made (H := Unit) w Try.prog 30 unitElem)
  have HA := Lib.hid (show Below w.heap.size w (w.alloc (.map #[] 0)) from (Below.refl w.heap.size w).alloc (Nat.le_refl _) (.map #[] 0))
  clear hmm
  generalize w.alloc (.map #[] 0) = W0 at *
  go_loopw [14] (fun i wr => ∃ (k q : Nat) (D : DataW Unit), k ≤ m ∧ i = .int .i64 k ∧ q ≤ k ∧ SX wr w.heap.size q D ∧ HX D (fun t => amT t (F.take k)) ∧ Below w.heap.size w wr) (fun i _ => m - (intOf i).toNat)
  case atStart => exact ⟨0, 0, _, Nat.zero_le _, rfl, Nat.le_refl _, HM0.out, fun x _ => rfl, HA.out⟩
  case round =>
    obtain ⟨k, q, D, hk, rfl, hmk, hown, hD, hBw⟩ := hrel
    have HD := Lib.hid hD
    have HW := Lib.hid hown
    have HB := Lib.hid hBw
    clear hD hown hBw
    by_cases hlt : k < m
    · obtain ⟨x, hx⟩ : ∃ x, F[k]? = some x := ⟨_, List.getElem?_eq_getElem (by rw [HM.out]; exact hlt)⟩
      have i0 : (0 : Int) ≤ (k : Int) := by omega
      have i1 : (k : Int) < (m : Int) := by omega
      have hxo := HO.out x (List.mem_of_getElem? hx)
      have HTK := Lib.hid (fun t => amT_take hx t)
      obtain ⟨b', off, rfl, hb, p0, p1⟩ := Txs.cells (HF.out.later HB.out) hx
      clear hx
      obtain ⟨W1, hW1⟩ : ∃ W1, wr.alloc (.cells #[.int .u64 (x.age : Nat), .int .u64 (x.id : Nat)] 30) = W1 := ⟨_, rfl⟩
      obtain ⟨x5, hx5⟩ : ∃ x5, wr.heap.size = x5 := ⟨_, rfl⟩
      obtain ⟨BV, hV⟩ := txbox hW1
      rw [hx5] at hV
      have HBV := Lib.hid (HB.out.trans (BV.mono HB.out.size))
      have HOV := Lib.hid (SX_later HW.out BV)
      obtain ⟨_, v0, v1⟩ := hV
      simp only at v0 v1
      clear BV
      have HAD := Lib.hid (addT_any w.heap.size q x D _ hxo (by omega) W1 HOV.out HD.out)
      have hlt0 : w.heap.size < W1.heap.size := HOV.out.lt
      go_wp2_with fail
      refine HAD.out.mono ?_
      rintro e w2 ⟨D2, rfl, ⟨m2, hm2, hO2⟩, hD2, hg2⟩
      have HB2 := Lib.hid (HBV.out.trans (below_of (Nat.le_refl _) (Nat.le_of_lt hlt0) hg2))
      have HO2 := Lib.hid hO2
      have HD2 := Lib.hid (show HX D2 (fun t => amT t (F.take (k + 1))) from fun t ht => (hD2 t ht).trans (HTK.out t).symm)
      clear hO2 hD2 hg2 p0 p1 v0 v1
      go_wp2_with fail
      go_roundw
      case rel => exact ⟨k + 1, m2, D2, by omega, by go_num, by omega, HO2.out, HD2.out, HB2.out⟩
      case measure => simp [intOf]; omega
    · have i1 : ¬ (k : Int) < (m : Int) := by omega
      have e : F.take k = F := List.take_of_length_le (by rw [HM.out]; omega)
      have HD2 := Lib.hid (show HX D (fun t => amT t F) from fun t ht => (HD.out t ht).trans (by simp only [e]))
      have HC1 := Lib.hid (HC.out.later HB.out)
      clear e HD
      go_wp2_with fail
      obtain ⟨ws, hws⟩ : ∃ x, x = wr := ⟨_, rfl⟩
      rw [← hws] at HC1 HB HW ⊢
      clear hws
      go_loopw [24] (fun i wr => ∃ j : Nat, j ≤ n ∧ i = .int .i64 j ∧ Cq 48 5 sopC B wr (.slice oa n oc) (wnM F (M.take j) ++ M.drop j) ∧ SX wr w.heap.size q D ∧ w.grownBy wr (oa.map fun q => q.block)) (fun i _ => n - (intOf i).toNat)
      case atStart => exact ⟨0, Nat.zero_le _, rfl, by simpa [wnM] using HC1.out, HW.out, ⟨HB.out.os, HB.out.tape, HB.out.output, HB.out.size, fun k hk _ => HB.out.block k hk⟩⟩
      case round =>
        obtain ⟨j, hj, rfl, hCj, hSj, hgj⟩ := hrel
        have HCJ := Lib.hid hCj
        have HSJ := Lib.hid hSj
        have HGJ := Lib.hid hgj
        clear hCj hSj hgj
        by_cases hlt : j < n
        · obtain ⟨g, rfl, hBg, hgw⟩ := HG.out (by omega)
          obtain ⟨y, hy⟩ : ∃ y, M[j]? = some y := ⟨_, List.getElem?_eq_getElem (by rw [HN.out]; exact hlt)⟩
          have hyo := HOM.out y (List.mem_of_getElem? hy)
          have hyk := keyTx y.x.t hyo
          have h1 : Maps.has D (ktx y.x.t) = amT y.x.t F := HD2.out y.x.t hyo
          have HAT := Lib.hid (wn_at (F := F) hy)
          have HST := Lib.hid (wn_set (F := F) hy)
          have HNO := Lib.hid (@wn_no F y)
          have hrow : Rw 5 sopC wr (some ⟨g, 0, none⟩) (wnM F (M.take j) ++ M.drop j) := by
            obtain ⟨a', c', e, h, _⟩ := HCJ.out.form sopT
            injection e with e _ _
            rw [e]; exact h
          obtain ⟨b', off, e, _, p0, p1, p2, p3, p4⟩ := Sop.cells hrow HAT.out
          injection e with e
          injection e with e1 e2
          subst e1 e2
          rw [Nat.zero_add] at p0 p1 p2 p3 p4
          have i2 : (0 : Int) ≤ (j : Int) := by omega
          have i3 : (j : Int) < (n : Int) := by omega
          clear hy hrow
          obtain ⟨h, hh⟩ : ∃ h, amT y.x.t F = h := ⟨_, rfl⟩
          rw [hh] at h1
          have HH := Lib.hid h1
          have HHH := Lib.hid hh
          clear h1 hh
          obtain ⟨⟨⟨ya, yi⟩, yf, yw, yp⟩, pa, pc⟩ := y
          simp only at p0 p1 p2 p3 p4 hyk
          obtain ⟨W1, hW1⟩ : ∃ W1, (wr.alloc (.cells #[.int .u64 (ya : Nat), .int .u64 (yi : Nat), .bool yf, .bool yw, .slice pa yp.length pc] 48)) = W1 := ⟨_, rfl⟩
          obtain ⟨x5, hx5⟩ : ∃ x5, wr.heap.size = x5 := ⟨_, rfl⟩
          have BV : Below wr.heap.size wr W1 := hW1 ▸ (Below.refl _ _).alloc (Nat.le_refl _) _
          have hV : W1.cell? ⟨x5, 0, none⟩ = some (.int .u64 (ya : Nat)) ∧ W1.cell? ⟨x5, 1, none⟩ = some (.int .u64 (yi : Nat)) := by
            rw [← hW1, ← hx5]; exact ⟨by simp [go_sem], by simp [go_sem]⟩
          obtain ⟨v0, v1⟩ := hV
          have HSV := Lib.hid (SX_later HSJ.out BV)
          have HCV := Lib.hid (HCJ.out.later BV)
          have HGV := Lib.hid (show w.grownBy W1 (some g) from grown_trans HGJ.out (grown_of BV))
          clear BV
          obtain ⟨W2, hW2⟩ : ∃ W2, W1.alloc (.cells #[] 113) = W2 := ⟨_, rfl⟩
          have BV2 : Below W1.heap.size W1 W2 := hW2 ▸ (Below.refl _ _).alloc (Nat.le_refl _) _
          have HS2 := Lib.hid (SX_later HSV.out BV2)
          have HC2 := Lib.hid (HCV.out.later BV2)
          have HG2 := Lib.hid (show w.grownBy W2 (some g) from grown_trans HGV.out (grown_of BV2))
          clear BV2
          have hln : (wnM F (M.take j) ++ M.drop j).length = n := by rw [wn_len, HN.out]
          obtain ⟨g', c', e', _, _, _, hd⟩ := Hd.of sopT HC2.out (by omega)
          injection e' with ea en ec
          injection ea with ea
          injection ea with ea
          subst ea ec
          clear en
          obtain ⟨b2, o2, e2, _, _, _, _, q3, _⟩ := Sop.cells hd.row HAT.out
          injection e2 with e2
          injection e2 with e3 e4
          subst e3 e4
          rw [Nat.zero_add] at q3
          have z3 := hd.fz (j * 5 + 3)
          cases h
          · have HRE := Lib.hid (show Cq 48 5 sopC B W2 (.slice (some ⟨g, 0, none⟩) n oc) (wnM F (M.take (j + 1)) ++ M.drop (j + 1)) from by
              rw [← HST.out, HNO.out HHH.out, set_self HAT.out]; exact HC2.out)
            clear hd z3 q3 hln
            go_wp2_with (first
              | (at_lookup; refine wpList_lookup_own_unit _ rfl _ _ 111 rfl 30 113 keyedTx Try.underlying111 (zeroUnitL _) w.heap.size q _ rfl HSV.out _ _ rfl hyk ?_; rw [HH.out])
              | go_in)
            go_roundw
            case rel => exact ⟨j + 1, by omega, by go_num, HRE.out, HS2.out, HG2.out⟩
            case measure => simp [intOf]; omega
          · have hput := hd.put1 sopT (o := 3) (y := wn1 F ⟨⟨⟨ya, yi⟩, yf, yw, yp⟩, pa, pc⟩) (u := .bool true) HAT.out (by simp [wn1, sopC, HHH.out]) (fun t ht => by rcases t with _ | _ | _ | _ | _ | t <;> first | rfl | exact absurd rfl ht)
            rw [HST.out] at hput
            have hcq := hput.cq sopT hBg HOC.out
            rw [wn_len, HN.out] at hcq
            have HRE := Lib.hid hcq
            have HS3 := Lib.hid (SX_grown HS2.out (sc_one W2 g (j * 5 + 3) (.bool true)) (by omega))
            have HG3 := Lib.hid (grown_trans HG2.out (sc_one W2 g (j * 5 + 3) (.bool true)))
            clear hd hput hcq hln
            go_wp2_with (first
              | (at_lookup; refine wpList_lookup_own_unit _ rfl _ _ 111 rfl 30 113 keyedTx Try.underlying111 (zeroUnitL _) w.heap.size q _ rfl HSV.out _ _ rfl hyk ?_; rw [HH.out])
              | go_in)
            go_roundw
            case rel => exact ⟨j + 1, by omega, by go_num, HRE.out, HS3.out, HG3.out⟩
            case measure => simp [intOf]; omega
        · have i3 : ¬ (j : Int) < (n : Int) := by omega
          have e : wnM F (M.take j) ++ M.drop j = wnM F M := by rw [List.take_of_length_le (by rw [HN.out]; omega), List.drop_eq_nil_of_le (by rw [HN.out]; omega), List.append_nil]
          have HRE := Lib.hid (show Cq 48 5 sopC B wr (.slice oa n oc) (wnM F M) from by rw [← e]; exact HCJ.out)
          clear e
          go_wp2_with fail
          go_end0
          exact ⟨rfl, HRE.out, HGJ.out⟩
end Go.Proofs.Ythgnecggdlamfaa
