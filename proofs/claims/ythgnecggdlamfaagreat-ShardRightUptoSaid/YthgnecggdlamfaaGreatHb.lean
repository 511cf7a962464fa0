/- Keys, values, puts that may be; the closures of place, with, without: the program's. -/
import Derived.Test.YthgnecggdlamfaaGreatUf
import Derived.Test.YthgnecggdlamfaaGreatUg
import Derived.Maps.OwnSet
import Derived.DeepKeys4
import Derived.StringKeys
import Derived.Deep.QuietTactic
import Derived.BigQuiet
namespace Go.Proofs.YthgnecggdlamfaaGreat
open Go.RowKit

theorem toL_data (b : ByteArray) : b.toList = b.data.toList := ByteArray.toList_eq b
theorem bytesLess_lessL : ∀ a b, Op.bytesLess a b = lessL a b
  | _, [] => by simp [Op.bytesLess, lessL]
  | [], _ :: _ => rfl
  | x :: r, y :: s => by
    rw [Op.bytesLess, lessL, bytesLess_lessL r s]
    by_cases h : x = y
    · subst h; simp
    · rw [if_neg h]
      have h2 : (x == y) = false := by simpa using h
      rw [h2, Bool.false_and, Bool.or_false]
      simp [UInt8.lt_iff_toNat_lt]
theorem less_any (a b : ByteArray) : Op.bytesLess a.toList b.toList = lessB a b := by
  rw [toL_data, toL_data, bytesLess_lessL]; rfl
def keyOk (k : ByteArray) : Bool := decide (1 ≤ k.size) && decide (k.size ≤ 16)
set_option maxHeartbeats 1000000 in
theorem mayKey_any (k : ByteArray) (b : Bool) (hb : keyOk k = b) (hk : k.size ≤ 140737488351232) (w : World) :
    Calls Tryz.prog 40 #[.string k] w fun e w' => e = .returned (.bool b) ∧ ∃ q, w' = w.drewN q := by
  have HB := Lib.hid hb
  clear hb
  by_cases h1 : 1 ≤ k.size
  · have g1 : (1 : Int) ≤ (k.size : Int) := by omega
    by_cases h2 : k.size ≤ 16
    · have g2 : (k.size : Int) ≤ 16 := by omega
      obtain rfl : b = true := by rw [← HB.out, keyOk, decide_eq_true h1, decide_eq_true h2]; rfl
      go_enter Tryz.func40, Tryz.ntmps40
      go_wp2_with fail
      go_ret
      exact ⟨by first | rfl | simp, 0, rfl⟩
    · have g2 : ¬ (k.size : Int) ≤ 16 := by omega
      obtain rfl : b = false := by rw [← HB.out, keyOk, decide_eq_false h2, Bool.and_false]
      go_enter Tryz.func40, Tryz.ntmps40
      go_wp2_with fail
      go_ret
      exact ⟨by first | rfl | simp, 0, rfl⟩
  · have g1 : ¬ (1 : Int) ≤ (k.size : Int) := by omega
    obtain rfl : b = false := by rw [← HB.out, keyOk, decide_eq_false h1]; rfl
    go_enter Tryz.func40, Tryz.ntmps40
    go_wp2_with fail
    go_ret
    exact ⟨by first | rfl | simp, 0, rfl⟩
theorem mayVal_any (k : ByteArray) (b : Bool) (hb : decide (k.size ≤ 32) = b) (hk : k.size ≤ 140737488351232) (w : World) :
    Calls Tryz.prog 41 #[.string k] w fun e w' => e = .returned (.bool b) ∧ ∃ q, w' = w.drewN q := by
  have HB := Lib.hid hb
  clear hb
  by_cases h2 : k.size ≤ 32
  · have g2 : (k.size : Int) ≤ 32 := by omega
    obtain rfl : b = true := by rw [← HB.out, decide_eq_true h2]
    go_enter Tryz.func41, Tryz.ntmps41
    go_wp2_with fail
    go_ret
    exact ⟨by first | rfl | simp, 0, rfl⟩
  · have g2 : ¬ (k.size : Int) ≤ 32 := by omega
    obtain rfl : b = false := by rw [← HB.out, decide_eq_false h2]
    go_enter Tryz.func41, Tryz.ntmps41
    go_wp2_with fail
    go_ret
    exact ⟨by first | rfl | simp, 0, rfl⟩
/-- A key in a box. -/
structure Kb (w : World) (h : Nat) (k : ByteArray) : Prop where
  c : w.cell? ⟨h, 0, none⟩ = some (.string k)
  lt : h < w.heap.size
theorem Kb.later {w w' : World} {h : Nat} {k : ByteArray} (H : Kb w h k) (hb : Below w.heap.size w w') : Kb w' h k := ⟨(hb.cell (p := ⟨h, 0, none⟩) H.lt).trans H.c, Nat.lt_of_lt_of_le H.lt hb.size⟩
theorem Kb.grown {w w' : World} {h g : Nat} {k : ByteArray} (H : Kb w h k) (hg : w.grownBy w' (some g)) (hne : h ≠ g) : Kb w' h k := ⟨(World.cell?_of_block (a := ⟨h, 0, none⟩) (hg.block h H.lt (by simpa using hne))).trans H.c, Nat.lt_of_lt_of_le H.lt hg.size⟩
set_option maxHeartbeats 1000000 in
theorem place1_any (x : Ro) (h : Nat) (key : ByteArray) (w : World) (H : Kb w h key) :
    Calls Tryz.prog 100 #[roV x, .pointer (some ⟨h, 0, none⟩)] w fun e w' => e = .returned (.bool (decide (x.key = key))) ∧ Below w.heap.size w w' := by
  obtain ⟨xk, xv, xn⟩ := x
  have B1 : Below w.heap.size w (w.alloc (.cells #[.string xk, .string xv, .int .u64 (xn : Nat)] 46)) := (Below.refl _ _).alloc (Nat.le_refl _) _
  obtain ⟨c, lt⟩ := H.later B1
  have HB := Lib.hid B1
  clear H B1
  unfold roV
  by_cases he : xk = key
  · subst he
    rw [decide_eq_true rfl]
    go_enter Tryz.func100, Tryz.ntmps100
    go_wp2_with fail
    go_ret
    exact ⟨by first | rfl | simp, HB.out⟩
  · rw [decide_eq_false he]
    have g1 := ba_ne he
    have g1' := ba_ne' he
    go_enter Tryz.func100, Tryz.ntmps100
    go_wp2_with fail
    go_ret
    exact ⟨by first | rfl | simp, HB.out⟩
set_option maxHeartbeats 1000000 in
theorem without1_any (x : Ro) (h : Nat) (key : ByteArray) (w : World) (H : Kb w h key) :
    Calls Tryz.prog 104 #[roV x, .pointer (some ⟨h, 0, none⟩)] w fun e w' => e = .returned (.bool (decide (x.key = key))) ∧ Below w.heap.size w w' := by
  obtain ⟨xk, xv, xn⟩ := x
  have B1 : Below w.heap.size w (w.alloc (.cells #[.string xk, .string xv, .int .u64 (xn : Nat)] 46)) := (Below.refl _ _).alloc (Nat.le_refl _) _
  obtain ⟨c, lt⟩ := H.later B1
  have HB := Lib.hid B1
  clear H B1
  unfold roV
  by_cases he : xk = key
  · subst he
    rw [decide_eq_true rfl]
    go_enter Tryz.func104, Tryz.ntmps104
    go_wp2_with fail
    go_ret
    exact ⟨by first | rfl | simp, HB.out⟩
  · rw [decide_eq_false he]
    have g1 := ba_ne he
    have g1' := ba_ne' he
    go_enter Tryz.func104, Tryz.ntmps104
    go_wp2_with fail
    go_ret
    exact ⟨by first | rfl | simp, HB.out⟩
set_option maxHeartbeats 1000000 in
theorem with1_any (x : Ro) (h : Nat) (key : ByteArray) (w : World) (H : Kb w h key) :
    Calls Tryz.prog 105 #[roV x, .pointer (some ⟨h, 0, none⟩)] w fun e w' => e = .returned (.bool (lessB key x.key)) ∧ Below w.heap.size w w' := by
  obtain ⟨xk, xv, xn⟩ := x
  have B1 : Below w.heap.size w (w.alloc (.cells #[.string xk, .string xv, .int .u64 (xn : Nat)] 46)) := (Below.refl _ _).alloc (Nat.le_refl _) _
  obtain ⟨c, lt⟩ := H.later B1
  have HB := Lib.hid B1
  clear H B1
  unfold roV
  by_cases he : xk = key
  · subst he
    have gl : Op.bytesLess xk.toList xk.toList = false := by rw [less_any, lessB_irrefl]
    simp only
    rw [lessB_irrefl]
    go_enter Tryz.func105, Tryz.ntmps105
    go_wp2_with fail
    go_ret
    exact ⟨by first | rfl | simp, HB.out⟩
  · have g1 := ba_ne he
    have g1' := ba_ne' he
    obtain ⟨d, hd⟩ : ∃ d, lessB key xk = d := ⟨_, rfl⟩
    have gl : Op.bytesLess xk.toList key.toList = !d := by
      rw [less_any]
      cases d
      · rcases h : lessB xk key with _ | _
        · exact absurd (lessB_total h hd) he
        · rfl
      · exact lessB_asym hd
    simp only
    rw [hd]
    clear hd
    go_enter Tryz.func105, Tryz.ntmps105
    go_wp2_with fail
    go_ret
    exact ⟨by first | rfl | (simp; done) | (cases d <;> rfl), HB.out⟩
set_option maxHeartbeats 1000000 in
theorem mayPut_any (p : Pu) (b : Bool) (hb : putOk p = b) (hk : p.key.size ≤ 140737488351232) (hv : p.val.size ≤ 140737488351232) (w : World) :
    Calls Tryz.prog 73 #[puV p] w fun e w' => e = .returned (.bool b) ∧ Below w.heap.size w w' := by
  obtain ⟨pk, pv, pg⟩ := p
  simp only at hk hv
  have HB := Lib.hid ((Below.refl w.heap.size w).alloc (Nat.le_refl _) (.cells #[.string pk, .string pv, .bool pg] 35))
  have HP := Lib.hid (show (keyOk pk && (decide (pv.size ≤ 32) && !(pg && decide (0 < pv.size)))) = b by rw [← hb]; simp only [putOk, keyOk, Bool.and_assoc])
  clear hb
  unfold puV
  obtain ⟨k1, h1⟩ : ∃ k1, keyOk pk = k1 := ⟨_, rfl⟩
  obtain ⟨k2, h2⟩ : ∃ k2, decide (pv.size ≤ 32) = k2 := ⟨_, rfl⟩
  have HK := Lib.hid (fun w' => mayKey_any pk k1 h1 hk w')
  have HV := Lib.hid (fun w' => mayVal_any pv k2 h2 hv w')
  rw [h1, h2] at HP
  clear h1 h2
  have fin : ∀ (q : Nat) (W : World), Below w.heap.size w W → Below w.heap.size w (W.drewN q) := fun q W h => below_drewN h q
  cases k1
  · obtain rfl : b = false := HP.out.symm
    go_enter Tryz.func73, Tryz.ntmps73
    go_wp2_with fail
    refine (HK.out _).mono ?_
    rintro e w1 ⟨rfl, q1, rfl⟩
    go_wp2_with fail
    go_ret
    exact ⟨by first | rfl | simp, fin _ _ HB.out⟩
  cases k2
  · obtain rfl : b = false := HP.out.symm
    go_enter Tryz.func73, Tryz.ntmps73
    go_wp2_with fail
    refine (HK.out _).mono ?_
    rintro e w1 ⟨rfl, q1, rfl⟩
    go_wp2_with fail
    refine (HV.out _).mono ?_
    rintro e w2 ⟨rfl, q2, rfl⟩
    go_wp2_with fail
    go_ret
    exact ⟨by first | rfl | simp, fin _ _ HB.out⟩
  cases pg
  · obtain rfl : b = true := HP.out.symm
    go_enter Tryz.func73, Tryz.ntmps73
    go_wp2_with fail
    refine (HK.out _).mono ?_
    rintro e w1 ⟨rfl, q1, rfl⟩
    go_wp2_with fail
    refine (HV.out _).mono ?_
    rintro e w2 ⟨rfl, q2, rfl⟩
    go_wp2_with fail
    go_ret
    exact ⟨by first | rfl | simp, fin _ _ HB.out⟩
  · by_cases hz : pv = ⟨#[]⟩
    · subst hz
      obtain rfl : b = true := by rw [← HP.out]; rfl
      go_enter Tryz.func73, Tryz.ntmps73
      go_wp2_with fail
      refine (HK.out _).mono ?_
      rintro e w1 ⟨rfl, q1, rfl⟩
      go_wp2_with fail
      refine (HV.out _).mono ?_
      rintro e w2 ⟨rfl, q2, rfl⟩
      go_wp2_with fail
      go_ret
      exact ⟨by first | rfl | simp, fin _ _ HB.out⟩
    · have hs : 0 < pv.size := by
        rcases Nat.eq_zero_or_pos pv.size with h | h
        · exact absurd (ByteArray.size_eq_zero_iff.1 h) hz
        · exact h
      obtain rfl : b = false := by rw [← HP.out, decide_eq_true hs]; rfl
      clear HP
      have g2 : ¬ pv.toList = [] := fun h => by
        rw [toL_data] at h
        have h3 : pv.data.toList.length = pv.size := Array.length_toList
        rw [h, List.length_nil] at h3; omega
      have g1 := ba_ne hz
      have g1' := ba_ne' hz
      clear hz
      go_enter Tryz.func73, Tryz.ntmps73
      go_wp2_with fail
      refine (HK.out _).mono ?_
      rintro e w1 ⟨rfl, q1, rfl⟩
      go_wp2_with fail
      refine (HV.out _).mono ?_
      rintro e w2 ⟨rfl, q2, rfl⟩
      go_wp2_with fail
      go_ret
      exact ⟨by first | rfl | (simp [g2]; done), fin _ _ HB.out⟩
end Go.Proofs.YthgnecggdlamfaaGreat
/- Which puts may be done: the program's Fits; its set of keys. -/
namespace Go.Proofs.YthgnecggdlamfaaGreat
open Go.RowKit Go.Maps

theorem keyedS : Keyed Tryz.prog 9 := string_keyed Tryz.underlying9
theorem keyS {s : ByteArray} (hs : s.size ≤ 140737488351232) : keyOf Tryz.prog 9 (.string s) = some (.string s.data.toList) := WideMaps.keyOf_string_mk Tryz.underlying9 (by unfold maxLen; omega)
theorem zeroUnitS (w : World) : (zeroValue 112).run Tryz.prog w = .ok (.agg #[]) w := by kernel_rfl
theorem litS_ne {x y : ByteArray} (h : x ≠ y) : (Lit.string x.data.toList) ≠ .string y.data.toList := fun e => by injection e with e; exact h (ba_ext e)
theorem litS_key (x : ByteArray) : WideAt.IsKeyLit (.string x.data.toList) := trivial
/-- A set of keys of the call's own. -/
abbrev SM (w : World) (b n : Nat) (D : DataW Unit) : Prop := w.ownsMap Tryz.prog 9 (unitElem (H := Unit)) b n D
theorem sm_under {w w' : World} {b n B : Nat} {D : DataW Unit} (h : SM w b n D) (hb : Below B w w') (hlt : b < B) : SM w' b n D := by
  obtain ⟨es, clock, h1, r⟩ := h
  exact ⟨es, clock, by rw [hb.block b hlt]; exact h1, r⟩
theorem sm_later {w w' : World} {b n : Nat} {D : DataW Unit} (h : SM w b n D) (hb : Below w.heap.size w w') : SM w' b n D := sm_under h hb h.lt
/-- Its keys are those of puts. -/
def KeysOf (D : DataW Unit) (P : List Pu) : Prop := ∀ x : ByteArray, Maps.has D (.string x.data.toList) = keyIn x P
theorem keyIn_snoc (x : ByteArray) (p : Pu) : ∀ P, keyIn x (P ++ [p]) = (keyIn x P || decide (p.key = x))
  | [] => by simp [keyIn]
  | z :: r => by simp only [List.cons_append, keyIn, keyIn_snoc x p r, Bool.or_assoc]
/-- What add answers. -/
def AdP (b n : Nat) (x : ByteArray) (P : List Pu) (w : World) (e : Ending) (w' : World) : Prop := ∃ D, e = .returned (.bool (!keyIn x P)) ∧ (∃ n', n' ≤ n + 1 ∧ SM w' b n' D) ∧ (∀ y : ByteArray, Maps.has D (.string y.data.toList) = (keyIn y P || decide (x = y))) ∧ Below b w w'
set_option maxRecDepth 100000 in
set_option maxHeartbeats 4000000 in
theorem add_any (b n : Nat) (x : ByteArray) (D : DataW Unit) (P : List Pu) (hx : x.size ≤ 140737488351232) (hn : n ≤ 1000) (w : World) (hown : SM w b n D) (hD : KeysOf D P) :
    Calls Tryz.prog 74 #[.map (some b), .string x] w (AdP b n x P w) := by
  have hk := keyS hx
  obtain ⟨h, hh⟩ : ∃ h, keyIn x P = h := ⟨_, rfl⟩
  have h1 := hD x
  rw [hh] at h1
  have HH := Lib.hid h1
  have HD := Lib.hid hD
  have HX := Lib.hid hh
  have HL := Lib.hid hown.lt
  have HW := Lib.hid hown
  clear h1 hD hh hown
  cases h
  all_goals
    go_enter Tryz.func74, Tryz.ntmps74
    go_wp2_with (first
      | (at_lookup; refine wpList_lookup_own_unit _ rfl _ _ 114 rfl 9 112 keyedS Tryz.underlying114 (zeroUnitS _) b n _ rfl HW.out _ _ rfl hk ?_; rw [HH.out])
      | (at_mapUpdate; refine wpList_mapUpdate_own _ rfl _ _ _ 114 rfl 9 112 keyedS Tryz.underlying114 (unitElem (H := Unit)) b n _ rfl (sm_later HW.out (by go_grown)) (by unfold maxLen; omega) _ _ _ rfl rfl hk _ [] unitElem_mk ?_; intro w1 hown1 hgrow1)
      | go_in)
    go_ret
    refine ⟨_, by rw [HX.out]; rfl, ⟨n + 1, Nat.le_refl _, hown1⟩, fun y => ?_, ((Below.refl b w).alloc (Nat.le_of_lt HL.out) _).grown hgrow1 (by have := HL.out; simp; omega) (fun k e => by cases e; exact Nat.le_refl _)⟩
    by_cases hxy : x = y
    · subst hxy; rw [has_put_same HW.out.isMap (litS_key x)]; simp
    · rw [has_put_other (litS_ne (Ne.symm hxy)), HD.out y]; simp [hxy]
theorem take_snocP {P : List Pu} {k : Nat} {x : Pu} (hx : P[k]? = some x) : P.take (k + 1) = P.take k ++ [x] := by
  obtain ⟨hk, rfl⟩ := List.getElem?_eq_some_iff.1 hx
  exact List.take_succ_eq_append_getElem hk
set_option maxRecDepth 100000 in
set_option maxHeartbeats 4000000 in
theorem pFits_any (n c : Nat) (a : Option Addr) (P : List Pu) (hn : P.length = n) (hl : n ≤ 140737488351232) (hs : smallP P) (w : World) (hM : Pus w a P) :
    Calls Tryz.prog 45 #[.slice a n c] w fun e w' => e = .returned (.int .i64 (fitsX P : Nat)) ∧ Below w.heap.size w w' := by
  have hmm := @run_makeMap Tryz.prog
  have HN := Lib.hid hn
  have HM := Lib.hid hM
  have HS := Lib.hid hs
  by_cases h8 : 8 < n
  · have g : (8 : Int) < (n : Int) := by omega
    have HR := Lib.hid (show fitsX P = 4 by unfold fitsX; rw [if_pos (by omega)])
    clear hn hM hs hmm
    go_enter Tryz.func45, Tryz.ntmps45
    go_wp2_with fail
    go_ret
    exact ⟨by rw [HR.out]; first | rfl | simp, Below.refl _ _⟩
  have g : ¬ (8 : Int) < (n : Int) := by omega
  obtain ⟨r, hr⟩ : ∃ r, fitF [] P = r := ⟨_, rfl⟩
  have HX := Lib.hid (show fitsX P = if r then 0 else 1 by unfold fitsX; rw [if_neg (by omega), hr])
  have HR := Lib.hid hr
  clear hn hM hs hr
  go_enter Tryz.func45, Tryz.ntmps45
  go_wp2_with fail
  have HM0 := Lib.hid (show SM (w.alloc (.map #[] 0)) w.heap.size 0 (.map []) from World.ownsMap_made (H := Unit) w Tryz.prog 9 unitElem)
  have HA := Lib.hid (show Below w.heap.size w (w.alloc (.map #[] 0)) from (Below.refl w.heap.size w).alloc (Nat.le_refl _) (.map #[] 0))
  clear hmm
  generalize w.alloc (.map #[] 0) = W0 at *
  go_loopw [12] (fun i wr => ∃ (k m : Nat) (D : DataW Unit), k ≤ n ∧ i = .int .i64 k ∧ m ≤ k ∧ SM wr w.heap.size m D ∧ KeysOf D (P.take k) ∧ fitF (P.take k) (P.drop k) = r ∧ Below w.heap.size w wr) (fun i _ => n - (intOf i).toNat)
  case atStart => exact ⟨0, 0, _, Nat.zero_le _, rfl, Nat.le_refl _, HM0.out, fun x => rfl, by rw [← HR.out]; rfl, HA.out⟩
  case round =>
    obtain ⟨k, m, D, hk, rfl, hmk, hown, hD, hf, hB⟩ := hrel
    have HD := Lib.hid hD
    have HF := Lib.hid hf
    have HO := Lib.hid hown
    have HB := Lib.hid hB
    clear hD hf hown hB
    by_cases hlt : k < n
    · obtain ⟨x, hx⟩ : ∃ x, P[k]? = some x := ⟨_, List.getElem?_eq_getElem (by rw [HN.out]; exact hlt)⟩
      have i0 : (0 : Int) ≤ (k : Int) := by omega
      have i1 : (k : Int) < (n : Int) := by omega
      obtain ⟨s1, s2⟩ := HS.out.at hx
      have HA2 := Lib.hid (HF.out.symm.trans (fitF_at hx))
      have HTK := Lib.hid (take_snocP hx)
      obtain ⟨b', off, rfl, hb, p0, p1, p2⟩ := Pus.cells (HM.out.later HB.out) hx
      clear hx
      obtain ⟨xk, xv, xg⟩ := x
      simp only at p0 p1 p2 s1 s2 HA2
      obtain ⟨W1, hW1⟩ : ∃ W1, wr.alloc (.cells #[.string xk, .string xv, .bool xg] 35) = W1 := ⟨_, rfl⟩
      obtain ⟨x5, hx5⟩ : ∃ x5, wr.heap.size = x5 := ⟨_, rfl⟩
      have BV : Below wr.heap.size wr W1 := hW1 ▸ (Below.refl _ _).alloc (Nat.le_refl _) _
      have HV : B3 W1 x5 (.string xk) (.string xv) (.bool xg) := hW1 ▸ B3.new hx5.symm _ _ _ _
      have HVV := Lib.hid HV
      obtain ⟨v0, v1, v2, _⟩ := HV
      have HBV := Lib.hid (HB.out.trans (BV.mono HB.out.size))
      have HOV := Lib.hid (sm_later HO.out BV)
      clear BV
      obtain ⟨k1, h1⟩ : ∃ k1, putOk ⟨xk, xv, xg⟩ = k1 := ⟨_, rfl⟩
      have HK := Lib.hid (fun w' => mayPut_any ⟨xk, xv, xg⟩ k1 h1 s1 s2 w')
      rw [h1] at HA2
      clear h1
      go_wp2_with fail
      refine (HK.out _).mono ?_
      rintro e w2 ⟨rfl, hb2⟩
      have HB2 := Lib.hid (HBV.out.trans (hb2.mono HBV.out.size))
      have HO2 := Lib.hid (sm_later HOV.out hb2)
      obtain ⟨u0, u1, u2, _⟩ := HVV.out.later hb2
      clear hb2 p0 p1 p2 v0 v1 v2
      cases k1
      · obtain rfl : r = false := HA2.out
        go_wp2_with fail
        go_ret
        exact ⟨by rw [HX.out]; first | rfl | simp, HB2.out⟩
      go_wp2_with fail
      refine (add_any w.heap.size m xk D (P.take k) s1 (by omega) w2 HO2.out HD.out).mono ?_
      rintro e w3 ⟨D3, rfl, ⟨m3, hm3, hO3⟩, hD3, hb3⟩
      have HB3 := Lib.hid (HB2.out.trans hb3)
      have HO3 := Lib.hid hO3
      have HD3 := Lib.hid (show KeysOf D3 (P.take (k + 1)) from fun y => by rw [HTK.out, keyIn_snoc]; exact hD3 y)
      clear hO3 hD3 hb3
      obtain ⟨h, hh⟩ : ∃ h, keyIn xk (P.take k) = h := ⟨_, rfl⟩
      rw [hh] at HA2 ⊢
      clear hh
      cases h
      · have HT := Lib.hid (show fitF (P.take (k + 1)) (P.drop (k + 1)) = r by rw [HA2.out]; rfl)
        go_wp2_with fail
        go_roundw
        case rel => exact ⟨k + 1, m3, D3, by omega, by go_num, by omega, HO3.out, HD3.out, HT.out, HB3.out⟩
        case measure => simp [intOf]; omega
      · obtain rfl : r = false := HA2.out
        go_wp2_with fail
        go_ret
        exact ⟨by rw [HX.out]; first | rfl | simp, HB3.out⟩
    · have i1 : ¬ (k : Int) < (n : Int) := by omega
      obtain rfl : r = true := by rw [← HF.out, List.drop_eq_nil_of_le (by rw [HN.out]; omega)]; cases P.take k <;> rfl
      go_wp2_with fail
      go_ret
      exact ⟨by rw [HX.out]; first | rfl | simp, HB.out⟩
end Go.Proofs.YthgnecggdlamfaaGreat
/- Which lists are right: the program's. -/
namespace Go.Proofs.YthgnecggdlamfaaGreat
open Go.RowKit

set_option maxHeartbeats 4000000 in
theorem pRight_any (n c : Nat) (a : Option Addr) (L : List Ro) (hn : L.length = n) (hl : n ≤ 140737488351232) (hs : smallR L) (w : World) (hM : Ros w a L) :
    Calls Tryz.prog 10 #[.slice a n c] w fun e w' => e = .returned (.bool (rightB L)) ∧ Below w.heap.size w w' := by
  have HN := Lib.hid hn
  have HM := Lib.hid hM
  have HS := Lib.hid hs
  by_cases h32 : 32 < n
  · have g : (32 : Int) < (n : Int) := by omega
    have HR := Lib.hid (show rightB L = false by unfold rightB; rw [hn, decide_eq_false (by omega)]; rfl)
    clear hn hM hs
    go_enter Tryz.func10, Tryz.ntmps10
    go_wp2_with fail
    go_ret
    exact ⟨by rw [HR.out]; first | rfl | simp, Below.refl _ _⟩
  have g : ¬ (32 : Int) < (n : Int) := by omega
  obtain ⟨r, hr⟩ : ∃ r, rightB L = r := ⟨_, rfl⟩
  have hra : ascF none L = r := by rw [← hr]; unfold rightB; rw [hn, decide_eq_true (by omega)]; rfl
  rw [hr]
  have HR := Lib.hid hra
  clear hn hM hs hr hra
  go_enter Tryz.func10, Tryz.ntmps10
  go_wp2_with fail
  go_loopw [10] (fun u wr => ∃ k : Nat, k ≤ n ∧ u = .int .i64 k ∧ ascF (prevR L k) (L.drop k) = r ∧ Below w.heap.size w wr) (fun u _ => n - (intOf u).toNat)
  case atStart => exact ⟨0, Nat.zero_le _, rfl, HR.out, Below.refl _ _⟩
  case round =>
    obtain ⟨k, hk, rfl, hf, hB⟩ := hrel
    have HF := Lib.hid hf
    have HB := Lib.hid hB
    clear hf
    by_cases hlt : k < n
    · obtain ⟨x, hx⟩ : ∃ x, L[k]? = some x := ⟨_, List.getElem?_eq_getElem (by rw [HN.out]; exact hlt)⟩
      have i0 : (0 : Int) ≤ (k : Int) := by omega
      have i1 : (k : Int) < (n : Int) := by omega
      have HA := Lib.hid (HF.out.symm.trans (ascF_at (prevR L k) hx))
      have HPS := Lib.hid (prevR_succ hx)
      obtain ⟨s1, s2⟩ := HS.out.at hx
      obtain ⟨b, off, rfl, hb, p0, p1, p2⟩ := Ros.cells (HM.out.later hB) hx
      have HBW := Lib.hid hB
      have HB1 := Lib.hid (show Below w.heap.size w (wr.alloc (.cells #[.string x.key, .string x.val, .int .u64 (x.ver : Nat)] 46)) from hB.alloc hB.size _)
      clear hB hx
      obtain ⟨xk, xv, xn⟩ := x
      simp only at p0 p1 p2 s1 s2 HA HPS HB1
      obtain ⟨k1, h1⟩ : ∃ k1, keyOk xk = k1 := ⟨_, rfl⟩
      obtain ⟨k2, h2⟩ : ∃ k2, decide (xv.size ≤ 32) = k2 := ⟨_, rfl⟩
      have HK := Lib.hid (fun w' => mayKey_any xk k1 h1 s1 w')
      have HV := Lib.hid (fun w' => mayVal_any xv k2 h2 s2 w')
      have HA1 := Lib.hid (show r = ((k1 && (k2 && decide (xn ≤ 4611686018427387903))) && ((match prevR L k with | none => true | some q => lessB q xk) && ascF (some xk) (L.drop (k + 1)))) by rw [HA.out]; simp only [rowOk]; rw [← h1, ← h2]; simp only [keyOk, Bool.and_assoc]; rfl)
      clear HA h1 h2
      cases k1
      case false =>
        obtain rfl : r = false := HA1.out
        go_wp2_with fail
        go_quiet ((first | (go_at_call 40; exact Calls.quiet_of (HK.out _)) | (go_at_call 41; exact Calls.quiet_of (HV.out _))))
        go_wp2_with fail
        go_ret
        exact ⟨by first | rfl | simp, below_drewN HB1.out _⟩
      cases k2
      case false =>
        obtain rfl : r = false := HA1.out
        go_wp2_with fail
        go_quiet ((first | (go_at_call 40; exact Calls.quiet_of (HK.out _)) | (go_at_call 41; exact Calls.quiet_of (HV.out _))))
        go_wp2_with fail
        go_ret
        exact ⟨by first | rfl | simp, below_drewN HB1.out _⟩
      by_cases h4 : xn ≤ 4611686018427387903
      case neg =>
        have g4 : (4611686018427387903 : Int) < (xn : Int) := by omega
        obtain rfl : r = false := by rw [HA1.out, decide_eq_false h4]; rfl
        go_wp2_with fail
        go_quiet ((first | (go_at_call 40; exact Calls.quiet_of (HK.out _)) | (go_at_call 41; exact Calls.quiet_of (HV.out _))))
        go_wp2_with fail
        go_ret
        exact ⟨by first | rfl | simp, below_drewN HB1.out _⟩
      have g4 : ¬ (4611686018427387903 : Int) < (xn : Int) := by omega
      have g4' : decide ((4611686018427387903 : Int) < (xn : Int)) = false := decide_eq_false g4
      have HA2 := Lib.hid (show r = ((match prevR L k with | none => true | some q => lessB q xk) && ascF (some xk) (L.drop (k + 1))) by rw [HA1.out, decide_eq_true h4]; rfl)
      clear HA1 h4
      by_cases hk0 : k = 0
      · have gk0 : ¬ (0 : Int) < (k : Int) := by omega
        have gk1 : decide (0 < k) = false := by simp; omega
        have HN2 := Lib.hid (show ascF (prevR L (k + 1)) (L.drop (k + 1)) = r by rw [HPS.out, HA2.out, show prevR L k = none from if_pos hk0]; rfl)
        clear hk0
        go_wp2_with fail
        go_quiet ((first | (go_at_call 40; exact Calls.quiet_of (HK.out _)) | (go_at_call 41; exact Calls.quiet_of (HV.out _))))
        go_wp2_with fail
        go_roundw
        case rel => exact ⟨k + 1, by omega, by go_num, HN2.out, below_drewN HB1.out _⟩
        case measure => simp [intOf]; omega
      · have gk : (0 : Int) < (k : Int) := by omega
        obtain ⟨j, hj⟩ : ∃ j, k - 1 = j := ⟨_, rfl⟩
        have gj : (k : Int) - 1 = (j : Int) := by omega
        have gw : IntKind.i64.wrap ((k : Int) - 1) = (j : Int) := by rw [gj]; exact IntWalk.i64_in _ (by omega)
        have gw2 : IntKind.i64.wrap (j : Int) = (j : Int) := IntWalk.i64_in _ (by omega)
        obtain ⟨y, hy⟩ : ∃ y, L[j]? = some y := ⟨_, List.getElem?_eq_getElem (by rw [HN.out]; omega)⟩
        have hpv : prevR L k = some y.key := by unfold prevR; rw [if_neg hk0, hj, hy]; rfl
        obtain ⟨b', off', e', hb', q0, _, _⟩ := Ros.cells (HM.out.later HBW.out) hy
        cases e'
        obtain ⟨d, hd⟩ : ∃ d, lessB y.key xk = d := ⟨_, rfl⟩
        have HA3 := Lib.hid (show r = (d && ascF (some xk) (L.drop (k + 1))) by rw [HA2.out, hpv]; simp only; rw [hd])
        have j0 : (0 : Int) ≤ (j : Int) := by omega
        have j1 : (j : Int) < (n : Int) := by omega
        have gk1 : decide (0 < k) = true := by simp; omega
        obtain ⟨yk, yv, yn⟩ := y
        simp only at q0 hd
        clear hy hpv hj hk0 HA2
        cases d
        · obtain rfl : r = false := HA3.out
          by_cases hq : xk = yk
          · subst hq
            have gl : Op.bytesLess xk.toList xk.toList = false := by rw [less_any, lessB_irrefl]
            clear hd
            go_wp2_with fail
            go_quiet ((first | (go_at_call 40; exact Calls.quiet_of (HK.out _)) | (go_at_call 41; exact Calls.quiet_of (HV.out _))))
            go_wp2_with fail
            go_ret
            exact ⟨by first | rfl | simp, below_drewN HB1.out _⟩
          · have g1 := ba_ne hq
            have g1' := ba_ne' hq
            have gl : Op.bytesLess xk.toList yk.toList = true := by
              rw [less_any]
              rcases h : lessB xk yk with _ | _
              · exact absurd (lessB_total h hd) hq
              · rfl
            clear hd
            go_wp2_with fail
            go_quiet ((first | (go_at_call 40; exact Calls.quiet_of (HK.out _)) | (go_at_call 41; exact Calls.quiet_of (HV.out _))))
            go_wp2_with fail
            go_ret
            exact ⟨by first | rfl | simp, below_drewN HB1.out _⟩
        · have HN2 := Lib.hid (show ascF (prevR L (k + 1)) (L.drop (k + 1)) = r by rw [HPS.out, HA3.out]; rfl)
          have hq : ¬ xk = yk := fun e => lessB_ne hd e.symm
          have g1 := ba_ne hq
          have g1' := ba_ne' hq
          have gl : Op.bytesLess xk.toList yk.toList = false := by rw [less_any]; exact lessB_asym hd
          clear hd
          go_wp2_with fail
          go_quiet ((first | (go_at_call 40; exact Calls.quiet_of (HK.out _)) | (go_at_call 41; exact Calls.quiet_of (HV.out _))))
          go_wp2_with fail
          go_roundw
          case rel => exact ⟨k + 1, by omega, by go_num, HN2.out, below_drewN HB1.out _⟩
          case measure => simp [intOf]; omega
    · have i1 : ¬ (k : Int) < (n : Int) := by omega
      obtain rfl : r = true := by rw [← HF.out, List.drop_eq_nil_of_le (by rw [HN.out]; omega)]; cases prevR L k <;> rfl
      go_wp2_with fail
      go_ret
      exact ⟨by first | rfl | simp, HB.out⟩
end Go.Proofs.YthgnecggdlamfaaGreat
