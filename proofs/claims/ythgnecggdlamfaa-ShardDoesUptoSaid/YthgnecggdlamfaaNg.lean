/- without, Drop: the program's. -/
import Derived.Test.YthgnecggdlamfaaNe
namespace Go.Proofs.Ythgnecggdlamfaa
open Go.RowKit Go.Maps

set_option maxRecDepth 100000 in
set_option maxHeartbeats 2000000 in
theorem withoutH1_any (h b n : Nat) (x : Ho) (D : DataW Unit) (m : Tx → Bool) (hx : okX x.t) (w : World) (H : B1 w h (.map (some b))) (hown : SX w b n D) (hD : HX D m) :
    Calls Try.prog 85 #[hoV x, .pointer (some ⟨h, 0, none⟩)] w fun e w' => e = .returned (.bool (m x.t)) ∧ Below w.heap.size w w' := by
  obtain ⟨xk, ⟨xa, xi⟩, xw⟩ := x
  have BV : Below w.heap.size w (w.alloc (.cells #[.string xk, .int .u64 (xa : Nat), .int .u64 (xi : Nat), .bool xw] 75)) := (Below.refl _ _).alloc (Nat.le_refl _) _
  obtain ⟨c, _⟩ := H.later BV
  have HC := Lib.hid (hasX_any b n ⟨xa, xi⟩ D m hx _ (SX_later hown BV) hD)
  have HB := Lib.hid BV
  clear H hown hD BV
  go_enter Try.func85, Try.ntmps85
  go_wp2_with fail
  refine HC.out.mono ?_
  rintro e w2 ⟨rfl, hb2⟩
  have HB2 := Lib.hid (HB.out.trans (hb2.mono HB.out.size))
  clear hb2
  go_wp2_with fail
  go_ret
  exact ⟨rfl, HB2.out⟩
theorem without1_run (p1 : Value) (x : Ho) (w : World) : (callFunc 85 (#[.agg #[.string x.key, .int .u64 (x.t.age : Nat), .int .u64 (x.t.id : Nat), .bool x.wr]] ++ #[p1])).run Try.prog w = .ok (.enter 85 (#[.agg #[.string x.key, .int .u64 (x.t.age : Nat), .int .u64 (x.t.id : Nat), .bool x.wr]] ++ #[p1])) w := by kernel_rfl
set_option maxRecDepth 100000 in
set_option maxHeartbeats 2000000 in
theorem withoutH_any (n c m d : Nat) (a b : Option Addr) (L : List Ho) (F : List Tx) (hn : L.length = n) (hl : n * 40 ≤ 140737488351232) (hs : smallH L) (hm : F.length = m) (hl2 : m * 16 ≤ 140737488351232) (ho : ∀ x ∈ F, okX x) (w : World) (hL : Hos w a L) (hF : Txs w b F) :
    Calls Try.prog 65 #[.slice a n c, .slice b m d] w (OwH w.heap.size w (L.filter fun x => !amT x.t F)) := by
  have HC := Lib.hid (setOf_any m d b F hm hl2 ho w hF)
  have HL := Lib.hid hL
  have HN := Lib.hid hn
  have HS := Lib.hid hs
  clear hF hL hn hm ho hs
  go_enter Try.func65, Try.ntmps65
  go_wp2_with fail
  refine HC.out.mono ?_
  rintro e w1 ⟨g, k, D, rfl, hg, hk, hS1, hD1, hb1⟩
  obtain ⟨W, hW⟩ : ∃ W, w1.alloc (.cells #[.map (some g)] 126) = W := ⟨_, rfl⟩
  obtain ⟨x5, hx5⟩ : ∃ x5, w1.heap.size = x5 := ⟨_, rfl⟩
  have BW : Below w1.heap.size w1 W := hW ▸ (Below.refl _ _).alloc (Nat.le_refl _) _
  have hbx : B1 W x5 (.map (some g)) := by rw [← hW, ← hx5]; exact ⟨by simp [go_sem], by simp⟩
  have hBW : Below w.heap.size w W := hb1.trans (BW.mono hb1.size)
  have hSW : SX W g k D := SX_later hS1 BW
  have HCL := Lib.hid (cloneH_any n c a L HN.out (by omega) W ((HL.out.later hb1).later BW))
  have HDF := Lib.hid (fun w3 (h : Below W.heap.size W w3) (a3 : Option Addr) (c3 : Nat) (h3 : CqH W.heap.size w3 (.slice a3 n c3) L) =>
    deleteH_any W.heap.size 85 #[.pointer (some ⟨x5, 0, none⟩)] (fun x => amT x.t F) n c3 a3 L HN.out (by omega) HS.out w3 h.size (without1_run _)
      (fun x w' ho hb => withoutH1_any x5 g k x D (fun t => amT t F) ho.2 w' (hbx.later (h.trans hb)) (SX_under hSW (h.trans hb) hSW.lt) hD1) h3)
  have HBW := Lib.hid hBW
  have HW := Lib.hid hW
  have HX5 := Lib.hid hx5
  have hsz := hBW.size
  clear hbx hBW hSW hS1 hD1 hb1 BW hg hk hW hx5
  go_wp2_with fail
  try rw [HW.out]
  try rw [HX5.out]
  refine HCL.out.mono ?_
  rintro e w3 ⟨v3, rfl, hc3, hb3⟩
  obtain ⟨a3, c3, rfl, _⟩ := hc3.form hoT
  rw [HN.out] at hc3 ⊢
  have HD3 := Lib.hid (HDF.out w3 hb3 a3 c3 hc3)
  have HB3 := Lib.hid (HBW.out.trans (hb3.mono hsz))
  clear hc3 hb3
  go_wp2_with fail
  refine HD3.out.mono ?_
  rintro e w4 ⟨v4, rfl, hc4, hb4⟩
  have HF := Lib.hid (show OwH w.heap.size w (L.filter fun x => !amT x.t F) (.returned v4) w4 from ⟨v4, rfl, hc4.mono hsz, HB3.out.trans (hb4.mono hsz)⟩)
  clear hc4 hb4
  go_wp2_with fail
  go_ret
  exact HF.out
theorem dropH_one (t : Tx) (L : List Ho) : (L.filter fun x => !amT x.t [t]) = dropH t L := by
  unfold dropH
  congr 1
  funext x
  simp only [amT, Bool.or_false]
  by_cases h : x.t = t
  · rw [decide_eq_true h, decide_eq_true h.symm]
  · rw [decide_eq_false h, decide_eq_false (fun e => h e.symm)]
set_option maxRecDepth 100000 in
set_option maxHeartbeats 2000000 in
theorem pDrop_any (n c : Nat) (a : Option Addr) (L : List Ho) (t : Tx) (hn : L.length = n) (hl : n * 40 ≤ 140737488351232) (hs : smallH L) (ho : okX t) (w : World) (hL : Hos w a L) :
    Calls Try.prog 75 #[.slice a n c, txV t] w (OwH w.heap.size w (dropH t L)) := by
  obtain ⟨ta, ti⟩ := t
  obtain ⟨W, hW⟩ : ∃ W, w.alloc (.cells #[.int .u64 (ta : Nat), .int .u64 (ti : Nat)] 30) = W := ⟨_, rfl⟩
  obtain ⟨W2, hW2⟩ : ∃ W2, W.alloc (.cells #[.int .u64 (ta : Nat), .int .u64 (ti : Nat)] 30) = W2 := ⟨_, rfl⟩
  obtain ⟨B1', _⟩ := txbox hW
  obtain ⟨B2, _⟩ := txbox hW2
  have hB2 : Below w.heap.size w W2 := B1'.trans (B2.mono B1'.size)
  have hF : Txs W2 (some ⟨W.heap.size, 0, none⟩) [⟨ta, ti⟩] := by subst hW2; exact rw_one (f := txC) W rfl (⟨ta, ti⟩ : Tx) rfl _
  have HC := Lib.hid (withoutH_any n c 1 1 a (some ⟨W.heap.size, 0, none⟩) L [⟨ta, ti⟩] hn hl hs rfl (by decide) (fun x hx => by
    have e : x = ⟨ta, ti⟩ := by simpa using hx
    rw [e]; exact ho) W2 (hL.later hB2) hF)
  rw [dropH_one, show W.heap.size = w.heap.size + 1 by rw [← hW]; simp] at HC
  obtain ⟨M, hM⟩ : ∃ M, dropH ⟨ta, ti⟩ L = M := ⟨_, rfl⟩
  rw [hM] at HC ⊢
  have HB := Lib.hid hB2
  have HW := Lib.hid hW
  have HW2 := Lib.hid hW2
  clear hM hF hB2 B1' B2 hW hW2 hL hn hs ho
  go_enter Try.func75, Try.ntmps75
  go_wp2_with fail
  try rw [HW.out]
  try rw [HW2.out]
  refine HC.out.mono ?_
  rintro e w2 ⟨v, rfl, hc, hb2⟩
  have HF := Lib.hid (show OwH w.heap.size w M (.returned v) w2 from ⟨v, rfl, hc.mono HB.out.size, HB.out.trans (hb2.mono HB.out.size)⟩)
  obtain ⟨a3, c3, rfl, _⟩ := hc.form hoT
  clear hc hb2
  go_wp2_with fail
  go_ret
  exact HF.out
end Go.Proofs.Ythgnecggdlamfaa
/- Who must give way: the program's wounds. -/
namespace Go.Proofs.Ythgnecggdlamfaa
open Go.RowKit Go.Maps

/-- A lock in a box. -/
structure HoBox (w : World) (b : Nat) (x : Ho) : Prop where
  lt : b < w.heap.size
  c0 : w.cell? ⟨b, 0, none⟩ = some (.string x.key)
  c1 : w.cell? ⟨b, 1, none⟩ = some (.int .u64 (x.t.age : Nat))
  c2 : w.cell? ⟨b, 2, none⟩ = some (.int .u64 (x.t.id : Nat))
  c3 : w.cell? ⟨b, 3, none⟩ = some (.bool x.wr)
theorem HoBox.later {w w' : World} {b : Nat} {x : Ho} (h : HoBox w b x) (hb : Below w.heap.size w w') : HoBox w' b x :=
  ⟨Nat.lt_of_lt_of_le h.lt hb.size, (hb.cell (p := ⟨b, 0, none⟩) h.lt).trans h.c0, (hb.cell (p := ⟨b, 1, none⟩) h.lt).trans h.c1, (hb.cell (p := ⟨b, 2, none⟩) h.lt).trans h.c2, (hb.cell (p := ⟨b, 3, none⟩) h.lt).trans h.c3⟩
theorem HoBox.grown {w w' : World} {b g : Nat} {x : Ho} (h : HoBox w b x) (hg : w.grownBy w' (some g)) (hne : b ≠ g) : HoBox w' b x := by
  have f : ∀ j v, w.cell? ⟨b, j, none⟩ = some v → w'.cell? ⟨b, j, none⟩ = some v := fun j v e => (World.cell?_of_block (a := ⟨b, j, none⟩) (hg.block b h.lt (by simpa using hne))).trans e
  exact ⟨Nat.lt_of_lt_of_le h.lt hg.size, f _ _ h.c0, f _ _ h.c1, f _ _ h.c2, f _ _ h.c3⟩
theorem hobox {w W : World} {a i : Nat} {k : ByteArray} {g : Bool} (hW : w.alloc (.cells #[.string k, .int .u64 (a : Nat), .int .u64 (i : Nat), .bool g] 75) = W) : Below w.heap.size w W ∧ HoBox W w.heap.size ⟨k, ⟨a, i⟩, g⟩ := by
  subst hW
  exact ⟨by go_grown, by simp, by simp [go_sem], by simp [go_sem], by simp [go_sem], by simp [go_sem]⟩
theorem Cq.grown {α : Type} {E : TypeId} {k : Nat} {f : α → List Value} {B g : Nat} {w w' : World} {v : Value} {L : List α} (h : Cq E k f B w v L) (hg : w.grownBy w' (some g)) (hne : g < B) : Cq E k f B w' v L := by
  rcases h with h | h
  · exact .inl h
  · refine .inr (h.kept (row := some g) hg ?_)
    rcases h1 : v.ownBlock with _ | q
    · exact .inl rfl
    · exact .inr (by have := (h.lt q h1).1; simp; omega)
/-- What wounds answers. -/
def WnP (w : World) (r : Option (List Tx)) (e : Ending) (w' : World) : Prop := ((∃ out v, r = some out ∧ e = .returned (.tuple #[v, .bool true]) ∧ CqX w.heap.size w' v out) ∨ (r = none ∧ e = .returned (.tuple #[.slice none 0 0, .bool false]))) ∧ Below w.heap.size w w'
theorem wayN_at {t : Tx} {key : ByteArray} {wr : Bool} {firm o : List Tx} {L : List Ho} {k : Nat} {x : Ho} (hx : L[k]? = some x) : wayH t key wr firm o (L.drop k) =
    if inW x t key wr then (if amT x.t firm || !eldT t x.t then none else wayH t key wr firm (if amT x.t o then o else o ++ [x.t]) (L.drop (k + 1))) else wayH t key wr firm o (L.drop (k + 1)) := by
  obtain ⟨hk, rfl⟩ := List.getElem?_eq_some_iff.1 hx
  rw [List.drop_eq_getElem_cons hk, wayH]
set_option maxRecDepth 100000 in
set_option maxHeartbeats 8000000 in
theorem wounds_any (fn : Nat) (caps : Array Value) (n c m d : Nat) (a b : Option Addr) (L : List Ho) (t : Tx) (key : ByteArray) (wb : Bool) (F : List Tx) (hn : L.length = n) (hl : n * 40 ≤ 140737488351232) (hs : smallH L) (hm : F.length = m) (hl2 : m * 16 ≤ 140737488351232) (ho : ∀ x ∈ F, okX x) (w : World)
    (hR : ∀ (x : Ho) (w : World), (callFunc fn (#[.agg #[.string x.key, .int .u64 (x.t.age : Nat), .int .u64 (x.t.id : Nat), .bool x.wr]] ++ caps)).run Try.prog w = .ok (.enter fn (#[.agg #[.string x.key, .int .u64 (x.t.age : Nat), .int .u64 (x.t.id : Nat), .bool x.wr]] ++ caps)) w)
    (H : ClF fn caps (fun x => inW x t key wb) w) (hL : Hos w a L) (hF : Txs w b F) :
    Calls Try.prog 64 #[.slice a n c, txV t, .func (.func fn) #[] caps, .slice b m d] w (WnP w (wayH t key wb F [] L)) := by
  obtain ⟨r, hr⟩ : ∃ r, wayH t key wb F [] L = r := ⟨_, rfl⟩
  rw [hr]
  obtain ⟨ta, ti⟩ := t
  obtain ⟨W, hW⟩ : ∃ W, w.alloc (.cells #[.int .u64 (ta : Nat), .int .u64 (ti : Nat)] 30) = W := ⟨_, rfl⟩
  obtain ⟨hB, hX⟩ := txbox hW
  obtain ⟨x0, hx0⟩ : ∃ x, w.heap.size = x := ⟨_, rfl⟩
  have hmm := @run_makeMap Try.prog
  rw [hx0] at hX
  have HC := Lib.hid (setOf_any m d b F hm hl2 ho W (hF.later hB))
  have HL := Lib.hid (hL.later hB)
  have HCL := Lib.hid (H.later hB)
  have HTX := Lib.hid hX
  have HB := Lib.hid hB
  have HN := Lib.hid hn
  have HS := Lib.hid hs
  have HR := Lib.hid (show wayH ⟨ta, ti⟩ key wb F [] (L.drop 0) = r from hr)
  have HW := Lib.hid hW
  have HX0 := Lib.hid hx0
  clear hr hB hX hF hL hn hm ho hs H hW hx0
  go_enter Try.func64, Try.ntmps64
  go_wp2_with fail
  try rw [HW.out]
  try rw [HX0.out]
  refine HC.out.mono ?_
  rintro e w1 ⟨g, k1, D1, rfl, hg, hk1, hS1, hD1, hb1⟩
  have hg1 := hS1.lt
  have HM2 := Lib.hid (show SX (w1.alloc (.map #[] 0)) w1.heap.size 0 (.map []) from World.ownsMap_made (H := Unit) w1 Try.prog 30 unitElem)
  have HA := Lib.hid (show Below w1.heap.size w1 (w1.alloc (.map #[] 0)) from (Below.refl w1.heap.size w1).alloc (Nat.le_refl _) (.map #[] 0))
  have hsz : (w1.alloc (.map #[] 0)).heap.size = w1.heap.size + 1 := by simp
  have HB1 := Lib.hid (hb1.trans (HA.out.mono hb1.size))
  have HS1 := Lib.hid (SX_later hS1 HA.out)
  have HD1 := Lib.hid hD1
  have hb1s := hb1.size
  clear hS1 hD1 hb1
  go_wp2_with fail
  obtain ⟨W0, hW0⟩ : ∃ W0, w1.alloc (.map #[] 0) = W0 := ⟨_, rfl⟩
  obtain ⟨b2, hb2e⟩ : ∃ b2, w1.heap.size = b2 := ⟨_, rfl⟩
  rw [hb2e] at HM2 hsz hg1 hb1s ⊢
  rw [hW0] at HM2 HA HB1 HS1 hsz ⊢
  clear HA hW0 hb2e hmm
  go_loopw [10, 20] (fun ov iv wr => ∃ (k q : Nat) (D2 : DataW Unit) (O : List Tx) (a' : Option Addr) (c' : Nat), k ≤ n ∧ iv = .int .i64 k ∧ ov = .slice a' O.length c' ∧ O.length ≤ k ∧ q ≤ k ∧ CqX W0.heap.size wr (.slice a' O.length c') O ∧ SX wr g k1 D1 ∧ SX wr b2 q D2 ∧ HX D2 (fun t => amT t O) ∧ wayH ⟨ta, ti⟩ key wb F O (L.drop k) = r ∧ W0.heap.size ≤ wr.heap.size ∧ Below W.heap.size W wr) (fun _ iv _ => n - (intOf iv).toNat)
  case atStart => exact ⟨0, 0, _, [], none, 0, Nat.zero_le _, rfl, rfl, Nat.le_refl _, Nat.le_refl _, Cq.nil _ _ _, HS1.out, HM2.out, fun x _ => rfl, HR.out, Nat.le_refl _, HB1.out⟩
  case round =>
    obtain ⟨k, q, D2, O, a', c', hk, rfl, rfl, hOk, hqk, hQ, hS, hS2, hD2, hw, hsw, hBw⟩ := hrel
    have HQ := Lib.hid hQ
    have HSS := Lib.hid hS
    have HS2 := Lib.hid hS2
    have HD2 := Lib.hid hD2
    have HWY := Lib.hid hw
    have HBW := Lib.hid hBw
    clear hQ hS hS2 hD2 hw hBw
    by_cases hlt : k < n
    case neg =>
      have i1 : ¬ (k : Int) < (n : Int) := by omega
      have HF := Lib.hid (show WnP w r (.returned (.tuple #[.slice a' O.length c', .bool true])) wr from ⟨.inl ⟨O, _, by rw [← HWY.out, List.drop_eq_nil_of_le (by rw [HN.out]; omega)]; rfl, rfl, HQ.out.mono (by have := HB.out.size; omega)⟩, HB.out.trans (HBW.out.mono HB.out.size)⟩)
      go_wp2_with fail
      go_ret2
      exact HF.out
    obtain ⟨x, hx⟩ : ∃ x, L[k]? = some x := ⟨_, List.getElem?_eq_getElem (by rw [HN.out]; exact hlt)⟩
    have i0 : (0 : Int) ≤ (k : Int) := by omega
    have i1 : (k : Int) < (n : Int) := by omega
    have hxo := HS.out x (List.mem_of_getElem? hx)
    have HAT := Lib.hid (HWY.out.symm.trans (wayN_at hx))
    obtain ⟨b', off, rfl, hb, p0, p1, p2, p3⟩ := Hos.cells (HL.out.later HBW.out) hx
    clear hx
    obtain ⟨xk, ⟨xa, xi⟩, xw⟩ := x
    simp only at p0 p1 p2 p3 HAT
    obtain ⟨W1, hW1⟩ : ∃ W1, wr.alloc (.cells #[.string xk, .int .u64 (xa : Nat), .int .u64 (xi : Nat), .bool xw] 75) = W1 := ⟨_, rfl⟩
    obtain ⟨BV, hV⟩ := hobox hW1
    obtain ⟨x14, hx14⟩ : ∃ x14, wr.heap.size = x14 := ⟨_, rfl⟩
    rw [hx14] at hV
    have h14 : b2 < x14 := by omega
    have HV := Lib.hid hV
    obtain ⟨_, v0, v1, v2, v3⟩ := hV
    simp only at v0 v1 v2 v3
    have HB1V := Lib.hid (HBW.out.trans (BV.mono HBW.out.size))
    have HQV := Lib.hid (HQ.out.later BV)
    have HSV := Lib.hid (SX_later HSS.out BV)
    have HS2V := Lib.hid (SX_later HS2.out BV)
    have hs1 := BV.size
    clear BV HQ HSS HS2 HBW
    have hRx := fun w => hR ⟨xk, ⟨xa, xi⟩, xw⟩ w
    simp only at hRx
    obtain ⟨y1, hy1⟩ : ∃ y, inW ⟨xk, ⟨xa, xi⟩, xw⟩ ⟨ta, ti⟩ key wb = y := ⟨_, rfl⟩
    have HCX := Lib.hid (show Calls Try.prog fn (#[hoV ⟨xk, ⟨xa, xi⟩, xw⟩] ++ caps) W1 (fun e w2 => e = .returned (.bool (inW ⟨xk, ⟨xa, xi⟩, xw⟩ ⟨ta, ti⟩ key wb)) ∧ Below W1.heap.size W1 w2) from HCL.out ⟨xk, ⟨xa, xi⟩, xw⟩ _ hxo HB1V.out)
    rw [hy1] at HAT HCX
    clear hy1
    go_wp2_with fail
    clear hRx
    refine HCX.out.mono ?_
    rintro e w2 ⟨rfl, hb2⟩
    have HB2 := Lib.hid (HB1V.out.trans (hb2.mono HB1V.out.size))
    have HQ2 := Lib.hid (HQV.out.later hb2)
    have HSA := Lib.hid (SX_later HSV.out hb2)
    have HSB := Lib.hid (SX_later HS2V.out hb2)
    have HV2 := Lib.hid (HV.out.later hb2)
    have hs2 := hb2.size
    clear hb2 p0 p1 p2 p3 v0 v1 v2 v3 HB1V HQV HSV HS2V HV
    clear HCX
    cases y1
    case false =>
      have HT := Lib.hid (show wayH ⟨ta, ti⟩ key wb F O (L.drop (k + 1)) = r by rw [HAT.out]; rfl)
      go_wp2_with fail
      go_roundw
      case rel => exact ⟨k + 1, q, D2, O, a', c', by omega, by go_num, rfl, by omega, by omega, HQ2.out, HSA.out, HSB.out, HD2.out, HT.out, by omega, HB2.out⟩
      case measure => simp [intOf]; omega
    obtain ⟨_, v0, v1, v2, v3⟩ := HV2.out
    simp only at v0 v1 v2 v3
    have HCH := Lib.hid (show Calls Try.prog 81 #[.map (some g), txV ⟨xa, xi⟩] w2 (fun e w' => e = .returned (.bool (amT ⟨xa, xi⟩ F)) ∧ Below w2.heap.size w2 w') from hasX_any g k1 ⟨xa, xi⟩ D1 _ hxo.2 w2 HSA.out HD1.out)
    obtain ⟨y2, hy2⟩ : ∃ y, amT ⟨xa, xi⟩ F = y := ⟨_, rfl⟩
    rw [hy2] at HAT HCH
    clear hy2
    go_wp2_with fail
    refine HCH.out.mono ?_
    rintro e w3 ⟨rfl, hb3⟩
    have HB3 := Lib.hid (HB2.out.trans (hb3.mono HB2.out.size))
    have HQ3 := Lib.hid (HQ2.out.later hb3)
    have HSA3 := Lib.hid (SX_later HSA.out hb3)
    have HSB3 := Lib.hid (SX_later HSB.out hb3)
    have HV3 := Lib.hid (HV2.out.later hb3)
    have hs3 := hb3.size
    clear hb3 v0 v1 v2 v3 HB2 HQ2 HSA HSB HV2 HCH
    have HNO := Lib.hid (fun (w' : World) (hrn : r = none) (h : Below W.heap.size W w') => (show WnP w r (.returned (.tuple #[.slice none 0 0, .bool false])) w' from ⟨.inr ⟨hrn, rfl⟩, HB.out.trans (h.mono HB.out.size)⟩))
    cases y2
    case true =>
      have hrn : r = none := by rw [HAT.out]; rfl
      have HF := Lib.hid (HNO.out w3 hrn HB3.out)
      clear hrn
      go_wp2_with fail
      go_ret2
      exact HF.out
    obtain ⟨_, v0, v1, v2, v3⟩ := HV3.out
    simp only at v0 v1 v2 v3
    obtain ⟨_, t0, t1⟩ := HTX.out.later HB3.out
    simp only at t0 t1
    have HCE := Lib.hid (pElder_any ⟨ta, ti⟩ ⟨xa, xi⟩ w3)
    obtain ⟨y3, hy3⟩ : ∃ y, eldT ⟨ta, ti⟩ ⟨xa, xi⟩ = y := ⟨_, rfl⟩
    rw [hy3] at HAT HCE
    clear hy3
    go_wp2_with fail
    refine HCE.out.mono ?_
    rintro e w4 ⟨rfl, hb4⟩
    have HB4 := Lib.hid (HB3.out.trans (hb4.mono HB3.out.size))
    have HQ4 := Lib.hid (HQ3.out.later hb4)
    have HSA4 := Lib.hid (SX_later HSA3.out hb4)
    have HSB4 := Lib.hid (SX_later HSB3.out hb4)
    have HV4 := Lib.hid (HV3.out.later hb4)
    have hs4 := hb4.size
    clear hb4 v0 v1 v2 v3 t0 t1 HB3 HQ3 HSA3 HSB3 HV3 HCE
    cases y3
    case false =>
      have hrn : r = none := by rw [HAT.out]; rfl
      have HF := Lib.hid (HNO.out w4 hrn HB4.out)
      clear hrn
      go_wp2_with fail
      go_ret2
      exact HF.out
    clear HNO
    obtain ⟨_, v0, v1, v2, v3⟩ := HV4.out
    simp only at v0 v1 v2 v3
    have HAD := Lib.hid (addX_any b2 q ⟨xa, xi⟩ D2 _ hxo.2 (by omega) w4 HSB4.out HD2.out)
    go_wp2_with fail
    refine HAD.out.mono ?_
    rintro e w5 ⟨D3, rfl, ⟨q3, hq3, hS5⟩, hD5, hg5⟩
    simp only
    have hbw : Below W.heap.size w4 w5 := below_of (by omega) (by have := HB4.out.size; omega) hg5
    have HB5 := Lib.hid (HB4.out.trans hbw)
    have HQ5 := Lib.hid (HQ4.out.grown hg5 (by omega))
    have HSA5 := Lib.hid (SX_grown HSA4.out hg5 (by omega))
    have HSB5 := Lib.hid hS5
    have HV5 := Lib.hid (HV4.out.grown hg5 (by omega))
    have HD5 := Lib.hid hD5
    have hs5 := hg5.size
    clear hbw hg5 hD5 hS5 v0 v1 v2 v3 HB4 HQ4 HSA4 HSB4 HV4 HAD
    obtain ⟨y4, hy4⟩ : ∃ y, amT ⟨xa, xi⟩ O = y := ⟨_, rfl⟩
    rw [hy4] at HAT ⊢
    cases y4
    case true =>
      have HT := Lib.hid (show wayH ⟨ta, ti⟩ key wb F O (L.drop (k + 1)) = r by rw [HAT.out]; rfl)
      have HD6 := Lib.hid (show HX D3 (fun t => amT t O) from fun u hu => by
        refine (HD5.out u hu).trans ?_
        by_cases e : (⟨xa, xi⟩ : Tx) = u
        · subst e; simp only [hy4, Bool.true_or]
        · simp only [decide_eq_false e, Bool.or_false])
      clear hy4
      go_wp2_with fail
      go_roundw
      case rel => exact ⟨k + 1, q3, D3, O, a', c', by omega, by go_num, rfl, by omega, by omega, HQ5.out, HSA5.out, HSB5.out, HD6.out, HT.out, by omega, HB5.out⟩
      case measure => simp [intOf]; omega
    have HT := Lib.hid (show wayH ⟨ta, ti⟩ key wb F (O ++ [(⟨xa, xi⟩ : Tx)]) (L.drop (k + 1)) = r by rw [HAT.out]; rfl)
    have HD6 := Lib.hid (show HX D3 (fun t => amT t (O ++ [(⟨xa, xi⟩ : Tx)])) from fun u hu => (HD5.out u hu).trans (amT_snoc u ⟨xa, xi⟩ O).symm)
    clear hy4
    obtain ⟨_, v0, v1, v2, v3⟩ := HV5.out
    simp only at v0 v1 v2 v3
    obtain ⟨a6, c6, w6, hr6, hc6, hb6⟩ := appX W0.heap.size w5 _ O HQ5.out ⟨xa, xi⟩ (by omega) (by omega)
    have hb7 : Below (W0.heap.size) w5 w6 := hb6
    have HR6 := Lib.hid hr6
    have HC6 := Lib.hid (show CqX W0.heap.size w6 (.slice a6 (O ++ [(⟨xa, xi⟩ : Tx)]).length c6) (O ++ [(⟨xa, xi⟩ : Tx)]) by rw [List.length_append, List.length_singleton]; exact hc6)
    have HB6 := Lib.hid (HB5.out.trans (hb7.mono (by have := HB1.out.size; omega)))
    have HSA6 := Lib.hid (SX_under HSA5.out hb7 (by omega))
    have HSB6 := Lib.hid (SX_under HSB5.out hb7 (by omega))
    have hs6 := hb7.size
    clear hr6 hc6 hb6 hb7 HQ5 HSA5 HSB5 HB5
    go_wp2_with (at_builtin; refine Lib.wpList_append_run _ rfl _ _ 83 83 rfl _ (.slice (some ⟨w5.heap.size, 0, none⟩) 1 1) rfl rfl _ _ HR6.out ?_)
    go_roundw
    case rel => exact ⟨k + 1, q3, D3, O ++ [(⟨xa, xi⟩ : Tx)], a6, c6, by omega, by go_num, by rw [List.length_append, List.length_singleton], by rw [List.length_append, List.length_singleton]; omega, by omega, HC6.out, HSA6.out, HSB6.out, HD6.out, HT.out, by omega, HB6.out⟩
    case measure => simp [intOf]; omega
end Go.Proofs.Ythgnecggdlamfaa
