/- Which puts may be done: the program's Fits; its set of keys. -/
import Derived.Test.YtifdgjmbecilhaaDoorHa
import Derived.Test.YtifdgjmbecilhaaDoorUg
import Derived.Maps.OwnSet
import Derived.DeepKeys4
import Derived.StringKeys
namespace Go.Proofs.YtifdgjmbecilhaaDoor
open Go.RowKit Go.Maps

theorem keyedS : Keyed Tryd.prog 9 := string_keyed Tryd.underlying9
theorem keyS {s : ByteArray} (hs : s.size ≤ 140737488351232) : keyOf Tryd.prog 9 (.string s) = some (.string s.data.toList) := WideMaps.keyOf_string_mk Tryd.underlying9 (by unfold maxLen; omega)
theorem zeroUnitS (w : World) : (zeroValue 91).run Tryd.prog w = .ok (.agg #[]) w := by kernel_rfl
theorem litS_ne {x y : ByteArray} (h : x ≠ y) : (Lit.string x.data.toList) ≠ .string y.data.toList := fun e => by injection e with e; exact h (ba_ext e)
theorem litS_key (x : ByteArray) : WideAt.IsKeyLit (.string x.data.toList) := trivial
/-- A set of keys of the call's own. -/
abbrev SM (w : World) (b n : Nat) (D : DataW Unit) : Prop := w.ownsMap Tryd.prog 9 (unitElem (H := Unit)) b n D
theorem sm_under {w w' : World} {b n B : Nat} {D : DataW Unit} (h : SM w b n D) (hb : Below B w w') (hlt : b < B) : SM w' b n D := by
  obtain ⟨es, clock, h1, r⟩ := h
  exact ⟨es, clock, by rw [hb.block b hlt]; exact h1, r⟩
theorem sm_later {w w' : World} {b n : Nat} {D : DataW Unit} (h : SM w b n D) (hb : Below w.heap.size w w') : SM w' b n D := sm_under h hb h.lt
/-- Its keys are those of puts. -/
def KeysOf (D : DataW Unit) (P : List Pu) : Prop := ∀ x : ByteArray, Maps.has D (.string x.data.toList) = keyIn x P
theorem keyIn_snoc (x : ByteArray) (p : Pu) : ∀ P, keyIn x (P ++ [p]) = (keyIn x P || decide (p.key = x))
  | [] => by simp [keyIn]
  | z :: r => by simp only [List.cons_append, keyIn, keyIn_snoc x p r, Bool.or_assoc]
/-- What add answers. -/
def AdP (b n : Nat) (x : ByteArray) (P : List Pu) (w : World) (e : Ending) (w' : World) : Prop := ∃ D, e = .returned (.bool (!keyIn x P)) ∧ (∃ n', n' ≤ n + 1 ∧ SM w' b n' D) ∧ (∀ y : ByteArray, Maps.has D (.string y.data.toList) = (keyIn y P || decide (x = y))) ∧ Below b w w'
set_option maxRecDepth 100000 in
set_option maxHeartbeats 4000000 in
theorem add_any (b n : Nat) (x : ByteArray) (D : DataW Unit) (P : List Pu) (hx : x.size ≤ 140737488351232) (hn : n ≤ 1000) (w : World) (hown : SM w b n D) (hD : KeysOf D P) :
    Calls Tryd.prog 31 #[.map (some b), .string x] w (AdP b n x P w) := by
  have hk := keyS hx
  obtain ⟨h, hh⟩ : ∃ h, keyIn x P = h := ⟨_, rfl⟩
  have h1 := hD x
  rw [hh] at h1
  have HH := Lib.hid h1
  have HD := Lib.hid hD
  have HX := Lib.hid hh
  have HL := Lib.hid hown.lt
  have HW := Lib.hid hown
  clear h1 hD hh hown
  cases h
  all_goals
    go_enter Tryd.func31, Tryd.ntmps31
    go_wp2_with (first
      | (at_lookup; refine wpList_lookup_own_unit _ rfl _ _ 62 rfl 9 91 keyedS Tryd.underlying62 (zeroUnitS _) b n _ rfl HW.out _ _ rfl hk ?_; rw [HH.out])
      | (at_mapUpdate; refine wpList_mapUpdate_own _ rfl _ _ _ 62 rfl 9 91 keyedS Tryd.underlying62 (unitElem (H := Unit)) b n _ rfl (sm_later HW.out (by go_grown)) (by unfold maxLen; omega) _ _ _ rfl rfl hk _ [] unitElem_mk ?_; intro w1 hown1 hgrow1)
      | go_in)
    go_ret
    refine ⟨_, by rw [HX.out]; rfl, ⟨n + 1, Nat.le_refl _, hown1⟩, fun y => ?_, ((Below.refl b w).alloc (Nat.le_of_lt HL.out) _).grown hgrow1 (by have := HL.out; simp; omega) (fun k e => by cases e; exact Nat.le_refl _)⟩
    by_cases hxy : x = y
    · subst hxy; rw [has_put_same HW.out.isMap (litS_key x)]; simp
    · rw [has_put_other (litS_ne (Ne.symm hxy)), HD.out y]; simp [hxy]
theorem take_snocP {P : List Pu} {k : Nat} {x : Pu} (hx : P[k]? = some x) : P.take (k + 1) = P.take k ++ [x] := by
  obtain ⟨hk, rfl⟩ := List.getElem?_eq_some_iff.1 hx
  exact List.take_succ_eq_append_getElem hk
set_option maxRecDepth 100000 in
set_option maxHeartbeats 4000000 in
theorem pFits_any (n c : Nat) (a : Option Addr) (P : List Pu) (hn : P.length = n) (hl : n ≤ 140737488351232) (hs : smallP P) (w : World) (hM : Pus w a P) :
    Calls Tryd.prog 15 #[.slice a n c] w fun e w' => e = .returned (.int .i64 (fitsX P : Nat)) ∧ Below w.heap.size w w' := by
  have hmm := @run_makeMap Tryd.prog
  have HN := Lib.hid hn
  have HM := Lib.hid hM
  have HS := Lib.hid hs
  by_cases h8 : 8 < n
  · have g : (8 : Int) < (n : Int) := by omega
    have HR := Lib.hid (show fitsX P = 4 by unfold fitsX; rw [if_pos (by omega)])
    clear hn hM hs hmm
    go_enter Tryd.func15, Tryd.ntmps15
    go_wp2_with fail
    go_ret
    exact ⟨by rw [HR.out]; first | rfl | simp, Below.refl _ _⟩
  have g : ¬ (8 : Int) < (n : Int) := by omega
  obtain ⟨r, hr⟩ : ∃ r, fitF [] P = r := ⟨_, rfl⟩
  have HX := Lib.hid (show fitsX P = if r then 0 else 1 by unfold fitsX; rw [if_neg (by omega), hr])
  have HR := Lib.hid hr
  clear hn hM hs hr
  go_enter Tryd.func15, Tryd.ntmps15
  go_wp2_with fail
  have HM0 := Lib.hid (show SM (w.alloc (.map #[] 0)) w.heap.size 0 (.map []) from World.ownsMap_made (H := Unit) w Tryd.prog 9 unitElem)
  have HA := Lib.hid (show Below w.heap.size w (w.alloc (.map #[] 0)) from (Below.refl w.heap.size w).alloc (Nat.le_refl _) (.map #[] 0))
  clear hmm
  generalize w.alloc (.map #[] 0) = W0 at *
  go_loopw [12] (fun i wr => ∃ (k m : Nat) (D : DataW Unit), k ≤ n ∧ i = .int .i64 k ∧ m ≤ k ∧ SM wr w.heap.size m D ∧ KeysOf D (P.take k) ∧ fitF (P.take k) (P.drop k) = r ∧ Below w.heap.size w wr) (fun i _ => n - (intOf i).toNat)
  case atStart => exact ⟨0, 0, _, Nat.zero_le _, rfl, Nat.le_refl _, HM0.out, fun x => rfl, by rw [← HR.out]; rfl, HA.out⟩
  case round =>
    obtain ⟨k, m, D, hk, rfl, hmk, hown, hD, hf, hB⟩ := hrel
    have HD := Lib.hid hD
    have HF := Lib.hid hf
    have HO := Lib.hid hown
    have HB := Lib.hid hB
    clear hD hf hown hB
    by_cases hlt : k < n
    · obtain ⟨x, hx⟩ : ∃ x, P[k]? = some x := ⟨_, List.getElem?_eq_getElem (by rw [HN.out]; exact hlt)⟩
      have i0 : (0 : Int) ≤ (k : Int) := by omega
      have i1 : (k : Int) < (n : Int) := by omega
      obtain ⟨s1, s2⟩ := HS.out.at hx
      have HA2 := Lib.hid (HF.out.symm.trans (fitF_at hx))
      have HTK := Lib.hid (take_snocP hx)
      obtain ⟨b', off, rfl, hb, p0, p1, p2⟩ := Pus.cells (HM.out.later HB.out) hx
      clear hx
      obtain ⟨xk, xv, xg⟩ := x
      simp only at p0 p1 p2 s1 s2 HA2
      obtain ⟨W1, hW1⟩ : ∃ W1, wr.alloc (.cells #[.string xk, .string xv, .bool xg] 37) = W1 := ⟨_, rfl⟩
      obtain ⟨x5, hx5⟩ : ∃ x5, wr.heap.size = x5 := ⟨_, rfl⟩
      have BV : Below wr.heap.size wr W1 := hW1 ▸ (Below.refl _ _).alloc (Nat.le_refl _) _
      have HV : B3 W1 x5 (.string xk) (.string xv) (.bool xg) := hW1 ▸ B3.new hx5.symm _ _ _ _
      have HVV := Lib.hid HV
      obtain ⟨v0, v1, v2, _⟩ := HV
      have HBV := Lib.hid (HB.out.trans (BV.mono HB.out.size))
      have HOV := Lib.hid (sm_later HO.out BV)
      clear BV
      obtain ⟨k1, h1⟩ : ∃ k1, putOk ⟨xk, xv, xg⟩ = k1 := ⟨_, rfl⟩
      have HK := Lib.hid (fun w' => mayPut_any ⟨xk, xv, xg⟩ k1 h1 s1 s2 w')
      rw [h1] at HA2
      clear h1
      go_wp2_with fail
      refine (HK.out _).mono ?_
      rintro e w2 ⟨rfl, hb2⟩
      have HB2 := Lib.hid (HBV.out.trans (hb2.mono HBV.out.size))
      have HO2 := Lib.hid (sm_later HOV.out hb2)
      obtain ⟨u0, u1, u2, _⟩ := HVV.out.later hb2
      clear hb2 p0 p1 p2 v0 v1 v2
      cases k1
      · obtain rfl : r = false := HA2.out
        go_wp2_with fail
        go_ret
        exact ⟨by rw [HX.out]; first | rfl | simp, HB2.out⟩
      go_wp2_with fail
      refine (add_any w.heap.size m xk D (P.take k) s1 (by omega) w2 HO2.out HD.out).mono ?_
      rintro e w3 ⟨D3, rfl, ⟨m3, hm3, hO3⟩, hD3, hb3⟩
      have HB3 := Lib.hid (HB2.out.trans hb3)
      have HO3 := Lib.hid hO3
      have HD3 := Lib.hid (show KeysOf D3 (P.take (k + 1)) from fun y => by rw [HTK.out, keyIn_snoc]; exact hD3 y)
      clear hO3 hD3 hb3
      obtain ⟨h, hh⟩ : ∃ h, keyIn xk (P.take k) = h := ⟨_, rfl⟩
      rw [hh] at HA2 ⊢
      clear hh
      cases h
      · have HT := Lib.hid (show fitF (P.take (k + 1)) (P.drop (k + 1)) = r by rw [HA2.out]; rfl)
        go_wp2_with fail
        go_roundw
        case rel => exact ⟨k + 1, m3, D3, by omega, by go_num, by omega, HO3.out, HD3.out, HT.out, HB3.out⟩
        case measure => simp [intOf]; omega
      · obtain rfl : r = false := HA2.out
        go_wp2_with fail
        go_ret
        exact ⟨by rw [HX.out]; first | rfl | simp, HB3.out⟩
    · have i1 : ¬ (k : Int) < (n : Int) := by omega
      obtain rfl : r = true := by rw [← HF.out, List.drop_eq_nil_of_le (by rw [HN.out]; omega)]; cases P.take k <;> rfl
      go_wp2_with fail
      go_ret
      exact ⟨by rw [HX.out]; first | rfl | simp, HB.out⟩
end Go.Proofs.YtifdgjmbecilhaaDoor
