/- Which puts may be done: the program's Fits; its set of keys. -/
import Derived.Test.YthgnecggdlamfaaHa
import Derived.Test.YthgnecggdlamfaaUg
import Derived.Maps.OwnSet
import Derived.DeepKeys4
import Derived.StringKeys
import Derived.Test.YthgnecggdlamfaaHj
import Derived.Test.YthgnecggdlamfaaUh
namespace Go.Proofs.Ythgnecggdlamfaa
open Go.RowKit Go.Maps

theorem keyedS : Keyed Try.prog 9 := string_keyed Try.underlying9
theorem keyS {s : ByteArray} (hs : s.size ≤ 140737488351232) : keyOf Try.prog 9 (.string s) = some (.string s.data.toList) := WideMaps.keyOf_string_mk Try.underlying9 (by unfold maxLen; omega)
theorem zeroUnitS (w : World) : (zeroValue 113).run Try.prog w = .ok (.agg #[]) w := by kernel_rfl
theorem litS_ne {x y : ByteArray} (h : x ≠ y) : (Lit.string x.data.toList) ≠ .string y.data.toList := fun e => by injection e with e; exact h (ba_ext e)
theorem litS_key (x : ByteArray) : WideAt.IsKeyLit (.string x.data.toList) := trivial
/-- A set of keys of the call's own. -/
abbrev SM (w : World) (b n : Nat) (D : DataW Unit) : Prop := w.ownsMap Try.prog 9 (unitElem (H := Unit)) b n D
theorem sm_under {w w' : World} {b n B : Nat} {D : DataW Unit} (h : SM w b n D) (hb : Below B w w') (hlt : b < B) : SM w' b n D := by
  obtain ⟨es, clock, h1, r⟩ := h
  exact ⟨es, clock, by rw [hb.block b hlt]; exact h1, r⟩
theorem sm_later {w w' : World} {b n : Nat} {D : DataW Unit} (h : SM w b n D) (hb : Below w.heap.size w w') : SM w' b n D := sm_under h hb h.lt
/-- Its keys are those of puts. -/
def KeysOf (D : DataW Unit) (P : List Pu) : Prop := ∀ x : ByteArray, Maps.has D (.string x.data.toList) = keyIn x P
theorem keyIn_snoc (x : ByteArray) (p : Pu) : ∀ P, keyIn x (P ++ [p]) = (keyIn x P || decide (p.key = x))
  | [] => by simp [keyIn]
  | z :: r => by simp only [List.cons_append, keyIn, keyIn_snoc x p r, Bool.or_assoc]
/-- What add answers. -/
def AdP (b n : Nat) (x : ByteArray) (P : List Pu) (w : World) (e : Ending) (w' : World) : Prop := ∃ D, e = .returned (.bool (!keyIn x P)) ∧ (∃ n', n' ≤ n + 1 ∧ SM w' b n' D) ∧ (∀ y : ByteArray, Maps.has D (.string y.data.toList) = (keyIn y P || decide (x = y))) ∧ Below b w w'
set_option maxRecDepth 100000 in
set_option maxHeartbeats 4000000 in
theorem add_any (b n : Nat) (x : ByteArray) (D : DataW Unit) (P : List Pu) (hx : x.size ≤ 140737488351232) (hn : n ≤ 1000) (w : World) (hown : SM w b n D) (hD : KeysOf D P) :
    Calls Try.prog 89 #[.map (some b), .string x] w (AdP b n x P w) := by
  have hk := keyS hx
  obtain ⟨h, hh⟩ : ∃ h, keyIn x P = h := ⟨_, rfl⟩
  have h1 := hD x
  rw [hh] at h1
  have HH := Lib.hid h1
  have HD := Lib.hid hD
  have HX := Lib.hid hh
  have HL := Lib.hid hown.lt
  have HW := Lib.hid hown
  clear h1 hD hh hown
  cases h
  all_goals
    go_enter Try.func89, Try.ntmps89
    go_wp2_with (first
      | (at_lookup; refine wpList_lookup_own_unit _ rfl _ _ 132 rfl 9 113 keyedS Try.underlying132 (zeroUnitS _) b n _ rfl HW.out _ _ rfl hk ?_; rw [HH.out])
      | (at_mapUpdate; refine wpList_mapUpdate_own _ rfl _ _ _ 132 rfl 9 113 keyedS Try.underlying132 (unitElem (H := Unit)) b n _ rfl (sm_later HW.out (by go_grown)) (by unfold maxLen; omega) _ _ _ rfl rfl hk _ [] unitElem_mk ?_; intro w1 hown1 hgrow1)
      | go_in)
    go_ret
    refine ⟨_, by rw [HX.out]; rfl, ⟨n + 1, Nat.le_refl _, hown1⟩, fun y => ?_, ((Below.refl b w).alloc (Nat.le_of_lt HL.out) _).grown hgrow1 (by have := HL.out; simp; omega) (fun k e => by cases e; exact Nat.le_refl _)⟩
    by_cases hxy : x = y
    · subst hxy; rw [has_put_same HW.out.isMap (litS_key x)]; simp
    · rw [has_put_other (litS_ne (Ne.symm hxy)), HD.out y]; simp [hxy]
theorem take_snocP {P : List Pu} {k : Nat} {x : Pu} (hx : P[k]? = some x) : P.take (k + 1) = P.take k ++ [x] := by
  obtain ⟨hk, rfl⟩ := List.getElem?_eq_some_iff.1 hx
  exact List.take_succ_eq_append_getElem hk
set_option maxRecDepth 100000 in
set_option maxHeartbeats 4000000 in
theorem pFits_any (n c : Nat) (a : Option Addr) (P : List Pu) (hn : P.length = n) (hl : n ≤ 140737488351232) (hs : smallP P) (w : World) (hM : Pus w a P) :
    Calls Try.prog 71 #[.slice a n c] w fun e w' => e = .returned (.int .i64 (fitsX P : Nat)) ∧ Below w.heap.size w w' := by
  have hmm := @run_makeMap Try.prog
  have HN := Lib.hid hn
  have HM := Lib.hid hM
  have HS := Lib.hid hs
  by_cases h8 : 8 < n
  · have g : (8 : Int) < (n : Int) := by omega
    have HR := Lib.hid (show fitsX P = 4 by unfold fitsX; rw [if_pos (by omega)])
    clear hn hM hs hmm
    go_enter Try.func71, Try.ntmps71
    go_wp2_with fail
    go_ret
    exact ⟨by rw [HR.out]; first | rfl | simp, Below.refl _ _⟩
  have g : ¬ (8 : Int) < (n : Int) := by omega
  obtain ⟨r, hr⟩ : ∃ r, fitF [] P = r := ⟨_, rfl⟩
  have HX := Lib.hid (show fitsX P = if r then 0 else 1 by unfold fitsX; rw [if_neg (by omega), hr])
  have HR := Lib.hid hr
  clear hn hM hs hr
  go_enter Try.func71, Try.ntmps71
  go_wp2_with fail
  have HM0 := Lib.hid (show SM (w.alloc (.map #[] 0)) w.heap.size 0 (.map []) from World.ownsMap_made (H := Unit) w Try.prog 9 unitElem)
  have HA := Lib.hid (show Below w.heap.size w (w.alloc (.map #[] 0)) from (Below.refl w.heap.size w).alloc (Nat.le_refl _) (.map #[] 0))
  clear hmm
  generalize w.alloc (.map #[] 0) = W0 at *
  go_loopw [12] (fun i wr => ∃ (k m : Nat) (D : DataW Unit), k ≤ n ∧ i = .int .i64 k ∧ m ≤ k ∧ SM wr w.heap.size m D ∧ KeysOf D (P.take k) ∧ fitF (P.take k) (P.drop k) = r ∧ Below w.heap.size w wr) (fun i _ => n - (intOf i).toNat)
  case atStart => exact ⟨0, 0, _, Nat.zero_le _, rfl, Nat.le_refl _, HM0.out, fun x => rfl, by rw [← HR.out]; rfl, HA.out⟩
  case round =>
    obtain ⟨k, m, D, hk, rfl, hmk, hown, hD, hf, hB⟩ := hrel
    have HD := Lib.hid hD
    have HF := Lib.hid hf
    have HO := Lib.hid hown
    have HB := Lib.hid hB
    clear hD hf hown hB
    by_cases hlt : k < n
    · obtain ⟨x, hx⟩ : ∃ x, P[k]? = some x := ⟨_, List.getElem?_eq_getElem (by rw [HN.out]; exact hlt)⟩
      have i0 : (0 : Int) ≤ (k : Int) := by omega
      have i1 : (k : Int) < (n : Int) := by omega
      obtain ⟨s1, s2⟩ := HS.out.at hx
      have HA2 := Lib.hid (HF.out.symm.trans (fitF_at hx))
      have HTK := Lib.hid (take_snocP hx)
      obtain ⟨b', off, rfl, hb, p0, p1, p2⟩ := Pus.cells (HM.out.later HB.out) hx
      clear hx
      obtain ⟨xk, xv, xg⟩ := x
      simp only at p0 p1 p2 s1 s2 HA2
      obtain ⟨W1, hW1⟩ : ∃ W1, wr.alloc (.cells #[.string xk, .string xv, .bool xg] 54) = W1 := ⟨_, rfl⟩
      obtain ⟨x5, hx5⟩ : ∃ x5, wr.heap.size = x5 := ⟨_, rfl⟩
      have BV : Below wr.heap.size wr W1 := hW1 ▸ (Below.refl _ _).alloc (Nat.le_refl _) _
      have HV : B3 W1 x5 (.string xk) (.string xv) (.bool xg) := hW1 ▸ B3.new hx5.symm _ _ _ _
      have HVV := Lib.hid HV
      obtain ⟨v0, v1, v2, _⟩ := HV
      have HBV := Lib.hid (HB.out.trans (BV.mono HB.out.size))
      have HOV := Lib.hid (sm_later HO.out BV)
      clear BV
      obtain ⟨k1, h1⟩ : ∃ k1, putOk ⟨xk, xv, xg⟩ = k1 := ⟨_, rfl⟩
      have HK := Lib.hid (fun w' => mayPut_any ⟨xk, xv, xg⟩ k1 h1 s1 s2 w')
      rw [h1] at HA2
      clear h1
      go_wp2_with fail
      refine (HK.out _).mono ?_
      rintro e w2 ⟨rfl, hb2⟩
      have HB2 := Lib.hid (HBV.out.trans (hb2.mono HBV.out.size))
      have HO2 := Lib.hid (sm_later HOV.out hb2)
      obtain ⟨u0, u1, u2, _⟩ := HVV.out.later hb2
      clear hb2 p0 p1 p2 v0 v1 v2
      cases k1
      · obtain rfl : r = false := HA2.out
        go_wp2_with fail
        go_ret
        exact ⟨by rw [HX.out]; first | rfl | simp, HB2.out⟩
      go_wp2_with fail
      refine (add_any w.heap.size m xk D (P.take k) s1 (by omega) w2 HO2.out HD.out).mono ?_
      rintro e w3 ⟨D3, rfl, ⟨m3, hm3, hO3⟩, hD3, hb3⟩
      have HB3 := Lib.hid (HB2.out.trans hb3)
      have HO3 := Lib.hid hO3
      have HD3 := Lib.hid (show KeysOf D3 (P.take (k + 1)) from fun y => by rw [HTK.out, keyIn_snoc]; exact hD3 y)
      clear hO3 hD3 hb3
      obtain ⟨h, hh⟩ : ∃ h, keyIn xk (P.take k) = h := ⟨_, rfl⟩
      rw [hh] at HA2 ⊢
      clear hh
      cases h
      · have HT := Lib.hid (show fitF (P.take (k + 1)) (P.drop (k + 1)) = r by rw [HA2.out]; rfl)
        go_wp2_with fail
        go_roundw
        case rel => exact ⟨k + 1, m3, D3, by omega, by go_num, by omega, HO3.out, HD3.out, HT.out, HB3.out⟩
        case measure => simp [intOf]; omega
      · obtain rfl : r = false := HA2.out
        go_wp2_with fail
        go_ret
        exact ⟨by rw [HX.out]; first | rfl | simp, HB3.out⟩
    · have i1 : ¬ (k : Int) < (n : Int) := by omega
      obtain rfl : r = true := by rw [← HF.out, List.drop_eq_nil_of_le (by rw [HN.out]; omega)]; cases P.take k <;> rfl
      go_wp2_with fail
      go_ret
      exact ⟨by rw [HX.out]; first | rfl | simp, HB.out⟩
end Go.Proofs.Ythgnecggdlamfaa
/- One put: the program's Do. -/
namespace Go.Proofs.Ythgnecggdlamfaa
open Go.RowKit

/-- What Do, All answer: a list of the call's own. -/
def AlQ (w : World) (r : List Ro × Nat) (e : Ending) (w' : World) : Prop := ∃ (a : Option Addr) (c : Nat), e = .returned (.tuple #[.slice a r.1.length c, .int .i64 (r.2 : Nat)]) ∧ Ros w' a r.1 ∧ ((0 < r.1.length → ∀ q, a = some q → w.heap.size ≤ q.block) ∧ r.1.length ≤ c ∧ c ≤ maxLen) ∧ Below w.heap.size w w'
set_option maxRecDepth 100000 in
set_option maxHeartbeats 4000000 in
theorem pDo_any (n c ver : Nat) (a : Option Addr) (L : List Ro) (p : Pu) (hn : L.length = n) (hl : n * 40 ≤ 140737488351232) (hpk : p.key.size ≤ 140737488351232) (hpv : p.val.size ≤ 140737488351232) (w : World) (hM : Ros w a L) :
    Calls Try.prog 74 #[.slice a n c, puV p, .int .u64 ver] w (AlQ w (doR L p ver)) := by
  have HN := Lib.hid hn
  obtain ⟨pk, pv, pg⟩ := p
  simp only at hpk hpv
  obtain ⟨W, hW⟩ : ∃ W, w.alloc (.cells #[.string pk, .string pv, .bool pg] 54) = W := ⟨_, rfl⟩
  obtain ⟨x4, hx4⟩ : ∃ x4, w.heap.size = x4 := ⟨_, rfl⟩
  have HR : B3 W x4 (.string pk) (.string pv) (.bool pg) := hW ▸ B3.new hx4.symm _ _ _ _
  have B1 : Below w.heap.size w W := hW ▸ (Below.refl _ _).alloc (Nat.le_refl _) _
  obtain ⟨W2, hW2⟩ : ∃ W2, W.alloc (.cells #[.string pk, .string pv, .bool pg] 54) = W2 := ⟨_, rfl⟩
  obtain ⟨x10, hx10⟩ : ∃ x10, W.heap.size = x10 := ⟨_, rfl⟩
  have B2 : Below W.heap.size W W2 := hW2 ▸ (Below.refl _ _).alloc (Nat.le_refl _) _
  have HP1 := Lib.hid (show Pus W2 (some ⟨x10, 0, none⟩) [⟨pk, pv, pg⟩] from by rw [← hW2]; exact rw_one (f := puC) _ hx10.symm (⟨pk, pv, pg⟩ : Pu) rfl 54)
  have HB2 := Lib.hid (B1.trans (B2.mono B1.size))
  have HR2 := Lib.hid (HR.later B2)
  have HM2 := Lib.hid ((hM.later B1).later B2)
  obtain ⟨f, hf⟩ : ∃ f, fitsX [⟨pk, pv, pg⟩] = f := ⟨_, rfl⟩
  have HFX := Lib.hid (fun w1 h1 => pFits_any 1 1 (some ⟨x10, 0, none⟩) [⟨pk, pv, pg⟩] rfl (by omega) (fun x hx => by simp only [List.mem_singleton] at hx; subst hx; exact ⟨hpk, hpv⟩) w1 h1)
  rw [hf] at HFX
  have hfin : ∀ (M : List Ro) (k : Nat), doR L ⟨pk, pv, pg⟩ ver = (M, k) → ∀ (a : Option Addr) (c : Nat) (w' : World), Ros w' a M → ((0 < M.length → ∀ q, a = some q → w.heap.size ≤ q.block) ∧ M.length ≤ c ∧ c ≤ maxLen) → Below w.heap.size w w' → AlQ w (doR L ⟨pk, pv, pg⟩ ver) (.returned (.tuple #[.slice a M.length c, .int .i64 (k : Nat)])) w' := fun M k e a c w' h1 h3 h2 => by rw [e]; exact ⟨a, c, rfl, h1, h3, h2⟩
  have HF := Lib.hid hfin
  obtain ⟨c0, c1, c2, lt⟩ := HR
  clear hM B1 B2 hn hfin
  unfold puV
  by_cases hf0 : f = 0
  case neg =>
    have HE := Lib.hid (fun w' h => HF.out [] f (by unfold doR; rw [hf, if_pos hf0]) none 0 w' (fun j x hx => by simp at hx) ⟨fun h => by simp at h, Nat.le_refl _, by decide⟩ h)
    have g : ((f : Int) == 0) = false := by simp; omega
    have g2 : ((f : Int) != 0) = true := by simp; omega
    clear hf hf0
    go_enter Try.func74, Try.ntmps74
    go_wp2_with fail
    refine (HFX.out _ HP1.out).mono ?_
    rintro e w3 ⟨rfl, hb3⟩
    have HB3 := Lib.hid (HB2.out.trans (hb3.mono HB2.out.size))
    clear hb3
    go_wp2_with fail
    go_ret2
    exact HE.out _ HB3.out
  subst hf0
  have HD := Lib.hid (show doR L ⟨pk, pv, pg⟩ ver = if pg then (delR pk L, 0) else withR L ⟨pk, pv, ver⟩ by unfold doR; rw [hf, if_neg (by omega)]; rfl)
  clear hf
  go_enter Try.func74, Try.ntmps74
  go_wp2_with fail
  refine (HFX.out _ HP1.out).mono ?_
  rintro e w3 ⟨rfl, hb3⟩
  have HB3 := Lib.hid (HB2.out.trans (hb3.mono HB2.out.size))
  have HM3 := Lib.hid (HM2.out.later hb3)
  obtain ⟨e0, e1, e2, _⟩ := HR2.out.later hb3
  clear hb3 c0 c1 c2
  cases pg
  · go_wp2_with fail
    refine (with_any ⟨pk, pv, ver⟩ n c a L HN.out hl w3 HM3.out).mono ?_
    rintro e w4 ⟨a4, c4, rfl, hR4, hl4, hc4, hm4, hb4⟩
    have HE := Lib.hid (HF.out (withR L ⟨pk, pv, ver⟩).1 (withR L ⟨pk, pv, ver⟩).2 (by rw [HD.out]; rfl) a4 c4 w4 hR4 ⟨fun h q hq => Nat.le_trans HB3.out.size (hl4 h q hq), hc4, hm4⟩ (HB3.out.trans (hb4.mono HB3.out.size)))
    clear hR4 hb4 HF HD hl4 hc4 hm4
    generalize (withR L ⟨pk, pv, ver⟩).1.length = m4 at *
    generalize (withR L ⟨pk, pv, ver⟩).2 = k4 at *
    go_wp2_with fail
    go_ret2
    exact HE.out
  · go_wp2_with fail
    refine (without_any pk n c a L HN.out hl w3 HM3.out).mono ?_
    rintro e w4 ⟨a4, c4, rfl, hR4, hl4, hc4, hm4, hb4⟩
    have HE := Lib.hid (HF.out (delR pk L) 0 (by rw [HD.out]; rfl) a4 c4 w4 hR4 ⟨fun h q hq => Nat.le_trans HB3.out.size (hl4 h q hq), hc4, hm4⟩ (HB3.out.trans (hb4.mono HB3.out.size)))
    clear hR4 hb4 HF HD hl4 hc4 hm4
    generalize (delR pk L).length = m4 at *
    go_wp2_with fail
    go_ret2
    exact HE.out
end Go.Proofs.Ythgnecggdlamfaa
/- Several puts: the program's All. -/
namespace Go.Proofs.Ythgnecggdlamfaa
open Go.RowKit

/-- A list of the call's own, no longer than its room. -/
def NwR (B : Nat) (a : Option Addr) (c : Nat) (M : List Ro) : Prop := (0 < M.length → ∀ q, a = some q → B ≤ q.block) ∧ M.length ≤ c ∧ c ≤ maxLen
/-- The two turns' flags. -/
structure Gf (w : World) (x : Nat) : Prop where
  c0 : w.cell? ⟨x, 0, none⟩ = some (.bool true)
  c1 : w.cell? ⟨x, 1, none⟩ = some (.bool false)
  lt : x < w.heap.size
theorem Gf.later {w w' : World} {x : Nat} (h : Gf w x) (hb : Below w.heap.size w w') : Gf w' x :=
  ⟨(hb.cell (p := ⟨x, 0, none⟩) h.lt).trans h.c0, (hb.cell (p := ⟨x, 1, none⟩) h.lt).trans h.c1, Nat.lt_of_lt_of_le h.lt hb.size⟩
theorem Gf.at {w : World} {x t : Nat} {tb : Bool} (h : Gf w x) (ht : t < 2) (hb : decide (t = 0) = tb) : w.cell? ⟨x, t, none⟩ = some (.bool tb) := by
  subst hb
  have : t = 0 ∨ t = 1 := by omega
  rcases this with rfl | rfl
  · exact h.c0
  · exact h.c1
set_option maxRecDepth 100000 in
set_option maxHeartbeats 8000000 in
theorem pAll_any (n c m e ver : Nat) (a a2 : Option Addr) (L : List Ro) (P : List Pu) (hn : L.length = n) (hl : n * 40 ≤ 140737488351232) (hs : smallR L) (hm : P.length = m) (hl2 : m ≤ 140737488351232) (hsp : smallP P) (w : World) (hM : Ros w a L) (hP : Pus w a2 P) :
    Calls Try.prog 49 #[.slice a n c, .slice a2 m e, .int .u64 ver] w (AlQ w (allR L P ver)) := by
  have HN := Lib.hid hn
  have HM := Lib.hid hM
  have HS := Lib.hid hs
  have HP := Lib.hid hP
  have HM2 := Lib.hid hm
  have HSP := Lib.hid hsp
  obtain ⟨f, hf⟩ : ∃ f, fitsX P = f := ⟨_, rfl⟩
  have HFX := Lib.hid hf
  by_cases hf0 : f = 0
  case neg =>
    have HF := Lib.hid (show ∀ w', Below w.heap.size w w' → AlQ w (allR L P ver) (.returned (.tuple #[.slice none 0 0, .int .i64 (f : Nat)])) w' from fun w' hB => by
      have : allR L P ver = ([], f) := by unfold allR; rw [hf, if_pos hf0]
      rw [this]; exact ⟨none, 0, rfl, fun j x hx => by simp at hx, ⟨fun h => by simp at h, Nat.le_refl _, by decide⟩, hB⟩)
    have g : ((f : Int) == 0) = false := by simp; omega
    have g2 : ((f : Int) != 0) = true := by simp; omega
    clear hn hM hs hP hm hsp hf hf0
    go_enter Try.func49, Try.ntmps49
    go_wp2_with fail
    refine (pFits_any m e a2 P HM2.out hl2 HSP.out _ HP.out).mono ?_
    rintro e w2 ⟨rfl, hb2⟩
    rw [HFX.out]
    have HB := Lib.hid hb2
    clear hb2
    go_wp2_with fail
    go_ret2
    exact HF.out _ HB.out
  subst hf0
  have hall := allR_st L P ver hf
  have HALL := Lib.hid hall
  clear hn hM hs hP hm hsp hf hall
  go_enter Try.func49, Try.ntmps49
  go_wp2_with fail
  refine (pFits_any m e a2 P HM2.out hl2 HSP.out _ HP.out).mono ?_
  rintro e w2 ⟨rfl, hb2⟩
  rw [HFX.out]
  have HB2 := Lib.hid hb2
  clear hb2
  go_wp2_with fail
  refine (cloneR_any n c a L HN.out (by omega) _ (HM.out.later HB2.out)).mono ?_
  rintro e w3 ⟨v3, rfl, hc3, hb3⟩
  obtain ⟨a3, c3, rfl, hR3, hl3, hq3, hm3⟩ := hc3.form roT
  have HQ3 := Lib.hid (show NwR w.heap.size a3 c3 L from ⟨fun h q hq => Nat.le_trans HB2.out.size (hl3 h q hq), hq3, hm3⟩)
  clear hl3 hq3 hm3
  obtain ⟨W4, hW4⟩ : ∃ W4, w3.alloc (.cells #[.bool true, .bool false] 4) = W4 := ⟨_, rfl⟩
  obtain ⟨x22, hx22⟩ : ∃ x22, w3.heap.size = x22 := ⟨_, rfl⟩
  have B4 : Below w3.heap.size w3 W4 := hW4 ▸ (Below.refl _ _).alloc (Nat.le_refl _) _
  have HG4 := Lib.hid (show Gf W4 x22 from by rw [← hW4, ← hx22]; exact ⟨by simp [go_sem], by simp [go_sem], by simp⟩)
  have HB4 := Lib.hid ((HB2.out.trans (hb3.mono HB2.out.size)).trans (B4.mono (Nat.le_trans HB2.out.size hb3.size)))
  have HR4 := Lib.hid (hR3.later B4)
  clear hc3 hR3 hb3 B4
  go_wp2_with fail
  go_loopw [9, 24] (fun lv tv wr => ∃ (t : Nat) (M : List Ro) (a' : Option Addr) (c' : Nat), t ≤ 2 ∧ tv = .int .i64 t ∧ lv = .slice a' M.length c' ∧ stA ver L P t = (M, 0) ∧ (1 ≤ t → (stA ver L P 1).2 = 0) ∧ smallR M ∧ M.length ≤ max n 32 ∧ Ros wr a' M ∧ NwR w.heap.size a' c' M ∧ Gf wr x22 ∧ Below w.heap.size w wr) (fun _ tv _ => 2 - (intOf tv).toNat)
  case atStart => exact ⟨0, L, a3, c3, by omega, rfl, rfl, rfl, fun h => by omega, HS.out, by rw [HN.out]; omega, HR4.out, HQ3.out, HG4.out, HB4.out⟩
  case round =>
    obtain ⟨t, M, a', c', ht, rfl, rfl, hst, hst1, hsm, hlen, hMr, hQ, hG, hB⟩ := hrel
    have HQ := Lib.hid hQ
    clear hQ
    have HST := Lib.hid hst
    have HST1 := Lib.hid hst1
    have HSM := Lib.hid hsm
    have HLEN := Lib.hid hlen
    have HMR := Lib.hid hMr
    have HG := Lib.hid hG
    have HB := Lib.hid hB
    clear hst hst1 hsm hlen hMr hB hG
    by_cases ht2 : t < 2
    · have gt : (t : Int) < 2 := by omega
      have gt0 : (0 : Int) ≤ (t : Int) := by omega
      obtain ⟨tb, htb⟩ : ∃ tb, decide (t = 0) = tb := ⟨_, rfl⟩
      have gc := HG.out.at ht2 htb
      have HTB := Lib.hid htb
      clear htb
      go_wp2_with fail
      clear gc
      go_loopw [9, 30] (fun lv iv wx => ∃ (i : Nat) (M' : List Ro) (a' : Option Addr) (c' : Nat), i ≤ m ∧ iv = .int .i64 i ∧ lv = .slice a' M'.length c' ∧ seqR ver M ((P.take i).filter (sel t)) = (M', 0) ∧ smallR M' ∧ M'.length ≤ max n 32 ∧ Ros wx a' M' ∧ NwR w.heap.size a' c' M' ∧ Gf wx x22 ∧ Below w.heap.size w wx) (fun _ iv _ => m - (intOf iv).toNat)
      case atStart => exact ⟨0, M, a', c', Nat.zero_le _, rfl, rfl, rfl, HSM.out, HLEN.out, HMR.out, HQ.out, HG.out, HB.out⟩
      case round =>
        obtain ⟨i, M', a5, c5, hi, rfl, rfl, hse, hsm, hlen, hMr, hQx, hGx, hBx⟩ := hrel
        have HQX := Lib.hid hQx
        clear hQx
        by_cases hlt : i < m
        · obtain ⟨p, hp⟩ : ∃ p, P[i]? = some p := ⟨_, List.getElem?_eq_getElem (by rw [HM2.out]; exact hlt)⟩
          have i0 : (0 : Int) ≤ (i : Int) := by omega
          have i1 : (i : Int) < (m : Int) := by omega
          obtain ⟨b, off, rfl, hb, p0, p1, p2⟩ := Pus.cells (HP.out.later hBx) hp
          have hps := HSP.out.at hp
          have htf := take_filter (sel t) hp
          have hfs := filter_split (sel t) hp
          obtain ⟨pk, pv, pg⟩ := p
          simp only at p0 p1 p2
          have hslt : sel t ⟨pk, pv, pg⟩ = (pg == tb) := by unfold sel; rw [HTB.out]
          obtain ⟨W5, hW5⟩ : ∃ W5, wr.alloc (.cells #[.string pk, .string pv, .bool pg] 54) = W5 := ⟨_, rfl⟩
          obtain ⟨x13, hx13⟩ : ∃ x13, wr.heap.size = x13 := ⟨_, rfl⟩
          have B5 : Below wr.heap.size wr W5 := hW5 ▸ (Below.refl _ _).alloc (Nat.le_refl _) _
          obtain ⟨v0, v1, v2, _⟩ : B3 W5 x13 (.string pk) (.string pv) (.bool pg) := hW5 ▸ B3.new hx13.symm _ _ _ _
          replace hMr := hMr.later B5
          replace hGx := hGx.later B5
          replace hBx := hBx.trans (B5.mono hBx.size)
          clear B5
          have HERR := Lib.hid (show ∀ (x : Nat) (w' : World), x ≠ 0 → seqR ver M ((P.take (i + 1)).filter (sel t)) = ([], x) → Below w.heap.size w w' → AlQ w (allR L P ver) (.returned (.tuple #[.slice none 0 0, .int .i64 (x : Nat)])) w' from fun x w' hx h hB => by
            have hfull : seqR ver M (P.filter (sel t)) = ([], x) := by
              rw [hfs, seqR_app, h, if_neg hx]
            have hnext : stA ver L P (t + 1) = ([], x) := by
              show seqR ver (stA ver L P t).1 (P.filter (sel t)) = _
              rw [HST.out]; exact hfull
            have : allR L P ver = ([], x) := by
              rw [HALL.out]
              have ht01 : t = 0 ∨ t = 1 := by omega
              rcases ht01 with rfl | rfl
              · rw [hnext, if_neg hx]
              · rw [if_pos (HST1.out (Nat.le_refl _)), hnext]
            rw [this]; exact ⟨none, 0, rfl, fun j x hx => by simp at hx, ⟨fun h => by simp at h, Nat.le_refl _, by decide⟩, hB⟩)
          by_cases hpt : pg = tb
          case pos =>
            subst hpt
            have hsl1 : sel t ⟨pk, pv, pg⟩ = true := by rw [hslt]; simp
            have htf2 : (P.take (i + 1)).filter (sel t) = (P.take i).filter (sel t) ++ [⟨pk, pv, pg⟩] := by rw [htf, hsl1]; rfl
            obtain ⟨D, hD⟩ : ∃ D, doR M' ⟨pk, pv, pg⟩ ver = D := ⟨_, rfl⟩
            have hsq : seqR ver M ((P.take (i + 1)).filter (sel t)) = if D.2 = 0 then (D.1, 0) else ([], D.2) := by
              rw [htf2, seqR_app, hse, if_pos rfl]; simp only [seqR]; rw [hD]
            have hDs := doR_small (p := ⟨pk, pv, pg⟩) (ver := ver) hsm hps
            have hDl := doR_len32 M' ⟨pk, pv, pg⟩ ver
            rw [hD] at hDs hDl
            have C := Lib.hid (pDo_any M'.length c5 ver a5 M' ⟨pk, pv, pg⟩ rfl (by omega) hps.1 hps.2 W5 hMr)
            rw [hD] at C
            obtain ⟨D1, D2⟩ := D
            have HSQ := Lib.hid hsq
            have HDS := Lib.hid hDs
            have HDL := Lib.hid (show D1.length ≤ max n 32 from Nat.le_trans hDl (by omega))
            have HBX := Lib.hid hBx
            have HGX := Lib.hid hGx
            clear htf htf2 hfs hsl1 hslt hD hsq hDs hDl hse hsm hlen hMr hBx hp hps hGx
            go_wp2_with fail
            refine C.out.mono ?_
            rintro e1 w5 ⟨a6, c6, rfl, hR6, hq6, hb5⟩
            have HQ6 := Lib.hid (show NwR w.heap.size a6 c6 D1 from ⟨fun h q hq => Nat.le_trans HBX.out.size (hq6.1 h q hq), hq6.2⟩)
            clear hq6
            have HR6 := Lib.hid hR6
            have HB6 := Lib.hid (HBX.out.trans (hb5.mono HBX.out.size))
            have HG6 := Lib.hid (HGX.out.later hb5)
            clear hR6 hb5 C
            by_cases hD0 : D2 = 0
            · subst hD0
              have HS3 := Lib.hid (show seqR ver M ((P.take (i + 1)).filter (sel t)) = (D1, 0) by rw [HSQ.out]; rfl)
              go_wp2_with fail
              go_roundw
              case rel => exact ⟨i + 1, D1, a6, c6, by omega, by go_num, rfl, HS3.out, HDS.out, HDL.out, HR6.out, HQ6.out, HG6.out, HB6.out⟩
              case measure => simp [intOf]; omega
            · have g5 : ((D2 : Int) == 0) = false := by simp; omega
              have g6 : ((D2 : Int) != 0) = true := by simp; omega
              have HF := Lib.hid (HERR.out D2 w5 hD0 (by rw [HSQ.out, if_neg hD0]) HB6.out)
              clear hD0
              go_wp2_with fail
              go_ret2
              exact HF.out
          case neg =>
            have g7 : (pg == tb) = false := by simpa using hpt
            have g8 : (pg != tb) = true := by simpa using hpt
            have hsl1 : sel t ⟨pk, pv, pg⟩ = false := by rw [hslt]; exact g7
            have HSQ := Lib.hid (show seqR ver M ((P.take (i + 1)).filter (sel t)) = (M', 0) by rw [htf, hsl1]; simpa using hse)
            have HSM2 := Lib.hid hsm
            have HLEN2 := Lib.hid hlen
            have HMR2 := Lib.hid hMr
            have HBX := Lib.hid hBx
            have HGX := Lib.hid hGx
            clear htf hfs hsl1 hslt hse hsm hlen hMr hBx hp hps hGx
            go_wp2_with fail
            go_roundw
            case rel => exact ⟨i + 1, M', a5, c5, by omega, by go_num, rfl, HSQ.out, HSM2.out, HLEN2.out, HMR2.out, HQX.out, HGX.out, HBX.out⟩
            case measure => simp [intOf]; omega
        · have i1 : ¬ (i : Int) < (m : Int) := by omega
          have hnext : stA ver L P (t + 1) = (M', 0) := by
            show seqR ver (stA ver L P t).1 (P.filter (sel t)) = _
            rw [HST.out]
            rw [List.take_of_length_le (by rw [HM2.out]; omega)] at hse
            exact hse
          have HNX := Lib.hid hnext
          have HN1 := Lib.hid (show 1 ≤ t + 1 → (stA ver L P 1).2 = 0 from fun _ => by
            rcases Nat.eq_zero_or_pos t with rfl | h
            · rw [hnext]
            · exact HST1.out h)
          have HSM2 := Lib.hid hsm
          have HLEN2 := Lib.hid hlen
          have HMR2 := Lib.hid hMr
          have HBX := Lib.hid hBx
          have HGX := Lib.hid hGx
          clear hnext hse hsm hlen hMr hBx hGx
          go_wp2_with fail
          go_roundw
          case rel => exact ⟨t + 1, M', a5, c5, by omega, by go_num, rfl, HNX.out, HN1.out, HSM2.out, HLEN2.out, HMR2.out, HQX.out, HGX.out, HBX.out⟩
          case measure => simp [intOf]; omega
    · have gt : ¬ (t : Int) < 2 := by omega
      have ht22 : t = 2 := by omega
      have HF := Lib.hid (show AlQ w (allR L P ver) (.returned (.tuple #[.slice a' M.length c', .int .i64 0])) wr by
        have h2 := HST.out
        rw [ht22] at h2
        have : allR L P ver = (M, 0) := by rw [HALL.out, if_pos (HST1.out (by omega)), h2]
        rw [this]; exact ⟨a', c', rfl, HMR.out, HQ.out, HB.out⟩)
      clear ht22
      go_wp2_with fail
      go_ret2
      exact HF.out
end Go.Proofs.Ythgnecggdlamfaa
