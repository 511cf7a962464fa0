/- Which configurations may be: the program's May and Need, the document's May. -/
import Derived.Test.YtdcpiaoadbbdoaaGreatBulk
import Derived.Test.YtdcpiaoadbbdoaaGreatGc
import Derived.Maps.OwnSet
import Derived.Test.YtdcpiaoadbbdoaaGreatRtake
import Derived.Lib.Hide
import Derived.Laws.IdiomStrings
import Derived.Lib.FrozenHead
import Derived.Deep.AppendSrc
import Derived.Laws.IdiomCopy
import Derived.Deep.RegionHeld3
import Derived.Deep.RegionLaw
import Derived.Deep.RegionWith
import Derived.Deep.Upon
import Derived.Deep.Cut
import Derived.Deep.DeepCutAuto
set_option maxRecDepth 100000
set_option maxHeartbeats 16000000
namespace Go.Proofs.YtdcpiaoadbbdoaaGreat
open Go.RowKit

def mayB (V L : List Nat) : Bool := decide (0 < V.length) && membB 7 V && membB 3 L && !bothN V L
theorem pMay_any (n c n2 c2 : Nat) (a a2 : Option Addr) (V L : List Nat) (hn : V.length = n) (hl : n ≤ 140737488351232) (hn2 : L.length = n2) (hl2 : n2 ≤ 140737488351232) (w : World) (hV : Us w a V) (hU : Us w a2 L) :
 Calls Tryz.prog 31 #[.agg #[.slice a n c, .slice a2 n2 c2]] w fun e w' => e = .returned (.bool (mayB V L)) ∧ Below w.heap.size w w' := by
 have B0 : Below w.heap.size w (w.alloc (.cells #[.slice a n c, .slice a2 n2 c2] 25)) := (Below.refl _ _).alloc (Nat.le_refl _) _
 have C0 := Cb.new (w := w) rfl (.slice a n c) (.slice a2 n2 c2) 25
 have HV := hI_ (hV.later B0)
 have HU := hI_ (hU.later B0)
 have HB := hI_ B0
 have HC := hI_ C0
 clear hV hU B0 C0
 obtain ⟨m1, hm1⟩ : ∃ m1, membB 7 V = m1 := ⟨_, rfl⟩
 obtain ⟨m2, hm2⟩ : ∃ m2, membB 3 L = m2 := ⟨_, rfl⟩
 obtain ⟨m3, hm3⟩ : ∃ m3, bothN V L = m3 := ⟨_, rfl⟩
 have HM1 := hI_ hm1
 have HM2 := hI_ hm2
 have HM3 := hI_ hm3
 by_cases h0 : 0 < n
 case neg =>
  have g0 : ¬ (0 : Int) < (n : Int) := by omega
  have HT := hI_ (show mayB V L = false by unfold mayB; rw [hn, decide_eq_false h0]; rfl)
  clear hm1 hm2 hm3
  go_enter Tryz.func31, Tryz.ntmps31
  go_wp2_with fail
  go_ret
  exact ⟨by rw [HT.out]; first | rfl | simp, HB.out⟩
 have g0 : (0 : Int) < (n : Int) := by omega
 have HT := hI_ (show mayB V L = (m1 && m2 && !m3) by unfold mayB; rw [hn, decide_eq_true h0, hm1, hm2, hm3]; rfl)
 have HN := hI_ hn
 have HN2 := hI_ hn2
 clear hm1 hm2 hm3 hn hn2 h0
 go_enter Tryz.func31, Tryz.ntmps31
 go_wp2_with fail
 refine (pMemb_any n c 7 a V HN.out hl _ HV.out).mono ?_
 rintro e w2 ⟨rfl, rfl⟩
 rw [HM1.out]
 cases m1
 · go_wp2_with fail
   go_ret
   exact ⟨by rw [HT.out]; first | rfl | simp, HB.out⟩
 go_wp2_with fail
 refine (pMemb_any n2 c2 3 a2 L HN2.out hl2 _ HU.out).mono ?_
 rintro e w2 ⟨rfl, rfl⟩
 rw [HM2.out]
 cases m2
 · go_wp2_with fail
   go_ret
   exact ⟨by rw [HT.out]; first | rfl | simp, HB.out⟩
 go_wp2_with fail
 refine (pContainsF_any n c w.heap.size n2 c2 a a2 V L HN.out hl HN2.out hl2 _ HV.out HU.out _ HC.out).mono ?_
 rintro e w2 ⟨rfl, rfl⟩
 rw [HM3.out]
 go_wp2_with fail
 go_ret
 exact ⟨by rw [HT.out]; first | rfl | simp, HB.out⟩
theorem pNeed_any (n c n2 c2 : Nat) (a a2 : Option Addr) (hl : n ≤ 140737488351232) (w : World) :
 Calls Tryz.prog 114 #[.agg #[.slice a n c, .slice a2 n2 c2]] w fun e w' => e = .returned (.int .i64 (n / 2 + 1 : Nat)) ∧ Below w.heap.size w w' := by
 have B0 : Below w.heap.size w (w.alloc (.cells #[.slice a n c, .slice a2 n2 c2] 25)) := (Below.refl _ _).alloc (Nat.le_refl _) _
 have HB := hI_ B0
 clear B0
 go_enter Tryz.func114, Tryz.ntmps114
 go_wp2_with fail
 go_ret
 exact ⟨by first | rfl | go_num, HB.out⟩
theorem rMay_any (n c n2 c2 : Nat) (a a2 : Option Addr) (V L : List Nat) (hn : V.length = n) (hl : n ≤ 140737488351232) (hn2 : L.length = n2) (hl2 : n2 ≤ 140737488351232) (w : World) (hV : Us w a V) (hU : Us w a2 L) :
 Calls Tryz.prog 18 #[.agg #[.slice a n c, .slice a2 n2 c2]] w fun e w' => e = .returned (.bool (mayB V L)) ∧ Below w.heap.size w w' := by
 have B0 : Below w.heap.size w (w.alloc (.cells #[.slice a n c, .slice a2 n2 c2] 25)) := (Below.refl _ _).alloc (Nat.le_refl _) _
 have C0 := Cb.new (w := w) rfl (.slice a n c) (.slice a2 n2 c2) 25
 have HV := hI_ (hV.later B0)
 have HU := hI_ (hU.later B0)
 obtain ⟨m1, hm1⟩ : ∃ m1, risesF 0 V = m1 := ⟨_, rfl⟩
 obtain ⟨m2, hm2⟩ : ∃ m2, risesF 0 L = m2 := ⟨_, rfl⟩
 have HM1 := hI_ hm1
 have HM2 := hI_ hm2
 have HT := hI_ (show mayB V L = (decide (0 < n) && (decide (n ≤ 7) && m1) && (decide (n2 ≤ 3) && m2) && !bothN V L) by unfold mayB membB; rw [hn, hn2, hm1, hm2])
 have HN := hI_ hn
 have HN2 := hI_ hn2
 clear hm1 hm2 hn hn2 hV hU
 go_enter Tryz.func18, Tryz.ntmps18
 go_wp2_with fail
 obtain ⟨c0, c1, fz, lt⟩ := C0
 go_wp2_with fail
 refine (rRises_any n c a V HN.out hl _ HV.out).mono ?_
 rintro e w1 ⟨rfl, hb1⟩
 rw [HM1.out]
 have B1 := B0.trans (hb1.mono B0.size)
 have C1 := (Cb.mk c0 c1 fz lt).later hb1
 have HV1 := hI_ (HV.out.later hb1)
 have HU1 := hI_ (HU.out.later hb1)
 clear c0 c1 fz lt hb1 B0 HV HU
 obtain ⟨c0, c1, fz, lt⟩ := C1
 go_wp2_with fail
 refine (rRises_any n2 c2 a2 L HN2.out hl2 _ HU1.out).mono ?_
 rintro e w2 ⟨rfl, hb2⟩
 rw [HM2.out]
 have B2 := B1.trans (hb2.mono B1.size)
 have C2 := (Cb.mk c0 c1 fz lt).later hb2
 have HV2 := hI_ (HV1.out.later hb2)
 have HU2 := hI_ (HU1.out.later hb2)
 have HB2 := hI_ B2
 clear c0 c1 fz lt hb2 B1 HV1 HU1 B2
 obtain ⟨c0, c1, fz, lt⟩ := C2
 generalize hW : w2 = W at *
 clear hW
 cases m1
 · go_wp2_with fail
   go_ret
   exact ⟨by rw [HT.out]; simp, HB2.out⟩
 cases m2
 · go_wp2_with fail
   go_ret
   exact ⟨by rw [HT.out]; simp, HB2.out⟩
 by_cases h0 : 0 < n
 case neg =>
  have g0 : (n : Int) < 1 := by omega
  go_wp2_with fail
  go_ret
  exact ⟨by rw [HT.out, decide_eq_false h0]; simp, HB2.out⟩
 have g0 : ¬ (n : Int) < 1 := by omega
 by_cases h1 : n ≤ 7
 case neg =>
  have g1 : (7 : Int) < (n : Int) := by omega
  go_wp2_with fail
  go_ret
  exact ⟨by rw [HT.out, decide_eq_false h1]; simp, HB2.out⟩
 have g1 : ¬ (7 : Int) < (n : Int) := by omega
 by_cases h2 : n2 ≤ 3
 case neg =>
  have g2 : (3 : Int) < (n2 : Int) := by omega
  go_wp2_with fail
  go_ret
  exact ⟨by rw [HT.out, decide_eq_false h2]; simp, HB2.out⟩
 have g2 : ¬ (3 : Int) < (n2 : Int) := by omega
 have HTT := hI_ (show mayB V L = !bothN V L by rw [HT.out, decide_eq_true h0, decide_eq_true h1, decide_eq_true h2]; simp)
 clear HT h0 h1 h2
 go_wp2_with fail
 go_loopw [5] (fun u wr => ∃ k : Nat, k ≤ n2 ∧ u = .int .i64 k ∧ bothN V L = bothN V (L.drop k) ∧ Below W.heap.size W wr) (fun u _ => n2 - (intOf u).toNat)
 case atStart => exact ⟨0, Nat.zero_le _, rfl, rfl, Below.refl _ _⟩
 case round =>
  obtain ⟨k, hk, rfl, hf, hB⟩ := hrel
  have HFB := hI_ hf
  clear hf
  have CC := (Cb.mk c0 c1 fz lt).later hB
  clear c0 c1 fz lt
  obtain ⟨c0, c1, fz, lt⟩ := CC
  have HBB := hI_ (HB2.out.trans (hB.mono HB2.out.size))
  by_cases hlt : k < n2
  · obtain ⟨y, hx⟩ : ∃ y, L[k]? = some y := ⟨_, List.getElem?_eq_getElem (by rw [HN2.out]; exact hlt)⟩
    have i0 : (0 : Int) ≤ (k : Int) := by omega
    have i1 : (k : Int) < (n2 : Int) := by omega
    obtain ⟨b, off, rfl, hb, p0⟩ := HU2.out.later hB k y hx
    have HFA := hI_ (HFB.out.trans (bothN_at (V := V) hx))
    have HV3 := hI_ (HV2.out.later hB)
    have HBW := hI_ hB
    clear hx hB
    obtain ⟨h, hh⟩ : ∃ h, hasN y V = h := ⟨_, rfl⟩
    have HH := hI_ hh
    clear hh
    cases h
    · have HTF := hI_ (show bothN V L = bothN V (L.drop (k + 1)) by rw [HFA.out, HH.out]; rfl)
      go_wp2_with fail
      go_quiet ((go_at_call 41; exact Calls.quiet_of_same ((rHas_any y n c a V HN.out hl _ (HV3.out.later (below_drewN (Below.refl _ _) _))).mono fun _ _ h => ⟨h.1.trans (by rw [HH.out]), h.2.symm⟩)))
      go_wp2_with fail
      go_roundw
      case rel => exact ⟨k + 1, by omega, by go_num, HTF.out, below_drewN HBW.out _⟩
      case measure => simp [intOf]; omega
    · have HTF := hI_ (show mayB V L = false by rw [HTT.out, HFA.out, HH.out]; rfl)
      go_wp2_with fail
      go_quiet ((go_at_call 41; exact Calls.quiet_of_same ((rHas_any y n c a V HN.out hl _ (HV3.out.later (below_drewN (Below.refl _ _) _))).mono fun _ _ h => ⟨h.1.trans (by rw [HH.out]), h.2.symm⟩)))
      go_wp2_with fail
      go_ret
      exact ⟨by rw [HTF.out]; first | rfl | simp, below_drewN HBB.out _⟩
  · have HTF := hI_ (show mayB V L = true by rw [HTT.out, HFB.out, List.drop_eq_nil_of_le (by rw [HN2.out]; omega)]; rfl)
    go_wp2_with fail
    go_ret
    exact ⟨by rw [HTF.out]; first | rfl | simp, HBB.out⟩
end Go.Proofs.YtdcpiaoadbbdoaaGreat
/- Majorities: the program's Most. -/
set_option maxRecDepth 100000
set_option maxHeartbeats 16000000
namespace Go.Proofs.YtdcpiaoadbbdoaaGreat
open Go.RowKit Go.Maps

def cntK (V I : List Nat) : Nat → Nat
 | 0 => 0
 | k + 1 => cntK V I k + if hasN (I.getD k 0) V && !hasN (I.getD k 0) (I.take k) then 1 else 0
theorem cntK_le (V I : List Nat) : ∀ k, cntK V I k ≤ k
 | 0 => Nat.le_refl _
 | k + 1 => by have := cntK_le V I k; simp only [cntK]; split <;> omega
def mostB (V I : List Nat) : Bool := decide (V.length / 2 + 1 ≤ cntK V I I.length)
theorem hasN_app (x : Nat) (A B : List Nat) : hasN x (A ++ B) = (hasN x A || hasN x B) := by
 induction A with
 | nil => rfl
 | cons y r ih => simp only [List.cons_append, hasN, ih, Bool.or_assoc]
theorem hasN_take_succ {k x y : Nat} {V : List Nat} (h : V[k]? = some y) : hasN x (V.take (k + 1)) = (hasN x (V.take k) || decide (y = x)) := by
 rw [List.take_add_one, h, hasN_app]; simp [hasN]
theorem keyed64 : Keyed Tryz.prog 22 := int_keyed Tryz.underlying22
theorem zeroUnit (w : World) : (zeroValue 171).run Tryz.prog w = .ok (.agg #[]) w := by kernel_rfl
theorem key64 (x : Nat) (h : x < 18446744073709551616) : keyOf Tryz.prog 22 (.int .u64 (x : Nat)) = some (.int .u64 (x : Nat)) := by
 refine keyOf_int_mk Tryz.underlying22 ?_
 simp [Lit.wf, IntKind.min, IntKind.max, IntKind.signed, IntKind.bits]; omega
theorem lit64_ne {x y : Nat} (h : x ≠ y) : (Lit.int .u64 (x : Int)) ≠ .int .u64 (y : Int) := by
 intro e; injection e with _ e; exact h (by omega)
theorem lit64_key (x : Nat) : WideAt.IsKeyLit (.int .u64 (x : Int)) := trivial
theorem pMost_any (n c n2 c2 m d : Nat) (a a2 a3 : Option Addr) (V I : List Nat) (hn : V.length = n) (hl : n ≤ 140737488351232) (hm : I.length = m) (hl2 : m ≤ 140737488351232) (hb1 : ∀ x ∈ V, x < 18446744073709551616) (hb2 : ∀ x ∈ I, x < 18446744073709551616) (w : World) (hV : Us w a V) (hI : Us w a3 I) :
 Calls Tryz.prog 126 #[.agg #[.slice a n c, .slice a2 n2 c2], .slice a3 m d] w fun e w' => e = .returned (.bool (mostB V I)) ∧ Below w.heap.size w w' := by
 have hmm := @run_makeMap Tryz.prog
 have B0 : Below w.heap.size w (w.alloc (.cells #[.slice a n c, .slice a2 n2 c2] 25)) := (Below.refl _ _).alloc (Nat.le_refl _) _
 have C0 := Cb.new (w := w) rfl (.slice a n c) (.slice a2 n2 c2) 25
 have HB0 := hI_ B0
 have HV := hI_ hV
 have HI := hI_ hI
 have HN := hI_ hn
 have HM := hI_ hm
 have HB1 := hI_ hb1
 have HB2 := hI_ hb2
 clear hV hI hn hm hb1 hb2 B0
 go_enter Tryz.func126, Tryz.ntmps126
 go_wp2_with fail
 have es : (w.alloc (.cells #[.slice a n c, .slice a2 n2 c2] 25)).heap.size = w.heap.size + 1 := by simp
 have HM0 := hI_ (show (((w.alloc (.cells #[.slice a n c, .slice a2 n2 c2] 25)).alloc (.map #[] 0)).ownsMap Tryz.prog 22 (unitElem (H := Unit)) (w.heap.size + 1) 0 (.map [])) from by
  have h := World.ownsMap_made (H := Unit) (w.alloc (.cells #[.slice a n c, .slice a2 n2 c2] 25)) Tryz.prog 22 unitElem
  rw [es] at h; exact h)
 have HK0 := hI_ (C0.past (.map #[] 0))
 have HA := hI_ ((Below.refl w.heap.size w).alloc (Nat.le_refl _) (.cells #[.slice a n c, .slice a2 n2 c2] 25) |>.alloc (by simp) (.map #[] 0))
 clear C0 es hmm
 generalize (w.alloc (.cells #[.slice a n c, .slice a2 n2 c2] 25)).alloc (.map #[] 0) = W0 at *
 go_loopw [17] (fun i wr => ∃ (k : Nat) (D : DataW Unit), k ≤ n ∧ i = .int .i64 k ∧ wr.ownsMap Tryz.prog 22 (unitElem (H := Unit)) (w.heap.size + 1) k D ∧ (∀ x : Nat, Maps.has D (.int .u64 (x : Int)) = hasN x (V.take k)) ∧ Cb wr w.heap.size (.slice a n c) (.slice a2 n2 c2) ∧ Below w.heap.size w wr) (fun i _ => n - (intOf i).toNat)
 case atStart => exact ⟨0, _, Nat.zero_le _, rfl, HM0.out, fun x => rfl, HK0.out, HA.out⟩
 case round =>
  obtain ⟨k, D, hk, rfl, hown, hD, hC, hB⟩ := hrel
  have HD := hI_ hD
  have HC := hI_ hC
  clear hD hC
  by_cases hlt : k < n
  · obtain ⟨x, hx⟩ : ∃ x, V[k]? = some x := ⟨_, List.getElem?_eq_getElem (by rw [HN.out]; exact hlt)⟩
    have i0 : (0 : Int) ≤ (k : Int) := by omega
    have i1 : (k : Int) < (n : Int) := by omega
    have hkey := key64 x (HB1.out x (List.mem_of_getElem? hx))
    obtain ⟨b, off, rfl, hb, p0⟩ := HV.out.later hB k x hx
    have HT := hI_ (show ∀ y : Nat, Maps.has (D.put (.int .u64 (x : Int)) (.agg [])) (.int .u64 (y : Int)) = hasN y (V.take (k + 1)) from fun y => by
     rw [hasN_take_succ hx]
     by_cases h : x = y
     · subst h; rw [has_put_same hown.isMap (lit64_key x)]; simp
     · rw [has_put_other (lit64_ne (Ne.symm h)), HD.out y]; simp [h])
    clear hx
    go_wp2_with (first
     | (at_mapUpdate; refine wpList_mapUpdate_own _ rfl _ _ _ 202 rfl 22 171 keyed64 Tryz.underlying202 (unitElem (H := Unit)) (w.heap.size + 1) k _ rfl hown (by unfold maxLen; omega) _ _ _ rfl rfl hkey _ [] unitElem_mk ?_; intro w1 hown1 hgrow1)
     | go_in)
    have hB1 : Below w.heap.size w w1 := hB.grown hgrow1 hB.size (fun j hj => by cases hj; omega)
    have hC1 := HC.out.under (B := w.heap.size + 1) (Nat.lt_succ_self _) ((Below.refl _ wr).grown hgrow1 (by have := hown.lt; omega) (fun j hj => by cases hj; exact Nat.le_refl _))
    have HO := hI_ hown1
    have HBC := hI_ (And.intro hC1 hB1)
    clear hown hown1 hB hB1 hC1 hgrow1 hkey
    go_roundw
    case rel => exact ⟨k + 1, _, by omega, by go_num, HO.out, HT.out, HBC.out.1, HBC.out.2⟩
    case measure => simp [intOf]; omega
  · have hkn : k = n := by omega
    subst hkn
    have HD1 := hI_ (show ∀ x : Nat, Maps.has D (.int .u64 (x : Int)) = hasN x V from fun x => by rw [HD.out x, List.take_of_length_le (by rw [HN.out]; exact Nat.le_refl _)])
    have HO := hI_ hown
    have HBW := hI_ hB
    clear hown hB hlt
    go_wp2_with fail
    go_loopw [8, 27] (fun cv i w2 => ∃ (j : Nat) (D : DataW Unit), j ≤ m ∧ i = .int .i64 j ∧ cv = .int .i64 (cntK V I j : Nat) ∧ w2.ownsMap Tryz.prog 22 (unitElem (H := Unit)) (w.heap.size + 1) k D ∧ (∀ x : Nat, Maps.has D (.int .u64 (x : Int)) = (hasN x V && !hasN x (I.take j))) ∧ Cb w2 w.heap.size (.slice a k c) (.slice a2 n2 c2) ∧ Below w.heap.size w w2) (fun _ i _ => m - (intOf i).toNat)
    case atStart => exact ⟨0, D, Nat.zero_le _, rfl, rfl, HO.out, fun x => by rw [HD1.out x]; simp [hasN], HC.out, HBW.out⟩
    case round =>
     obtain ⟨j, D2, hj, rfl, rfl, hown, hD, hC, hB⟩ := hrel
     have HD := hI_ hD
     have HC2 := hI_ hC
     clear hD hC
     by_cases hlt : j < m
     · obtain ⟨x, hx⟩ : ∃ x, I[j]? = some x := ⟨_, List.getElem?_eq_getElem (by rw [HM.out]; exact hlt)⟩
       have i0 : (0 : Int) ≤ (j : Int) := by omega
       have i1 : (j : Int) < (m : Int) := by omega
       have hcl := cntK_le V I j
       have hkey := key64 x (HB2.out x (List.mem_of_getElem? hx))
       obtain ⟨b, off, rfl, hb, p0⟩ := HI.out.later hB j x hx
       have hs : cntK V I (j + 1) = cntK V I j + if hasN x V && !hasN x (I.take j) then 1 else 0 := by simp only [cntK]; rw [show I.getD j 0 = x by simp [List.getD, hx]]
       have HX := hI_ hx
       clear hx
       obtain ⟨h, hh⟩ : ∃ h, Maps.has D2 (.int .u64 (x : Int)) = h := ⟨_, rfl⟩
       have hh2 := hh
       rw [HD.out x] at hh2
       rw [hh2] at hs
       have HS := hI_ hs
       have HH := hI_ hh
       clear hh hh2 hs
       cases h
       · have HT := hI_ (show ∀ y : Nat, Maps.has D2 (.int .u64 (y : Int)) = (hasN y V && !hasN y (I.take (j + 1))) from fun y => by
          rw [hasN_take_succ HX.out, HD.out y]
          by_cases h : x = y
          · subst h
            have h2 := HH.out
            rw [HD.out x] at h2
            rw [h2]; simp at h2 ⊢
          · simp [h])
         go_wp2_with (first
          | (at_lookup; refine wpList_lookup_own_unit _ rfl _ _ 202 rfl 22 171 keyed64 Tryz.underlying202 (zeroUnit _) (w.heap.size + 1) k _ rfl hown _ _ rfl hkey ?_; rw [HH.out])
          | go_in)
         have HO2 := hI_ (And.intro (hown.alloc (.cells #[] 171)) (And.intro (HC2.out.past (.cells #[] 171)) (hB.alloc hB.size (.cells #[] 171))))
         clear hown hB hkey
         go_roundw
         case rel => exact ⟨j + 1, D2, by omega, by go_num, by rw [HS.out]; rfl, HO2.out.1, HT.out, HO2.out.2.1, HO2.out.2.2⟩
         case measure => simp [intOf]; omega
       · have HT := hI_ (show ∀ y : Nat, Maps.has (D2.del (.int .u64 (x : Int))) (.int .u64 (y : Int)) = (hasN y V && !hasN y (I.take (j + 1))) from fun y => by
          rw [hasN_take_succ HX.out]
          by_cases h : x = y
          · subst h
            rw [has_del_same]; simp
          · rw [has_del_other (lit64_ne (Ne.symm h)), HD.out y]; simp [h])
         go_wp2_with (first
          | (at_lookup; refine wpList_lookup_own_unit _ rfl _ _ 202 rfl 22 171 keyed64 Tryz.underlying202 (zeroUnit _) (w.heap.size + 1) k _ rfl hown _ _ rfl hkey ?_; rw [HH.out])
          | (at_delete; refine wpList_delete_own _ rfl _ _ 202 22 rfl 171 keyed64 Tryz.underlying202 _ (w.heap.size + 1) k _ rfl (hown.alloc _) _ _ rfl hkey ?_; intro w3 hown3 hturn3)
          | go_in)
         have hB3 := hB.alloc hB.size (.cells #[] 171)
         have hg3 := hturn3.grown
         have hB4 : Below w.heap.size w w3 := hB3.grown hg3 hB3.size (fun j hj => by cases hj; omega)
         have hC4 := (HC2.out.past (.cells #[] 171)).under (B := w.heap.size + 1) (Nat.lt_succ_self _) ((Below.refl _ _).grown hg3 (by have := hown.lt; simp; omega) (fun j hj => by cases hj; exact Nat.le_refl _))
         have HO3 := hI_ (And.intro hown3 (And.intro hC4 hB4))
         clear hown hown3 hB hB3 hB4 hC4 hg3 hturn3 hkey
         go_roundw
         case rel => exact ⟨j + 1, _, by omega, by go_num, by rw [HS.out]; go_num, HO3.out.1, HT.out, HO3.out.2.1, HO3.out.2.2⟩
         case measure => simp [intOf]; omega
     · have hjm : j = m := by omega
       subst hjm
       have HT := hI_ (show mostB V I = decide (((k / 2 + 1 : Nat) : Int) ≤ (cntK V I j : Nat)) by unfold mostB; rw [HM.out, HN.out]; exact decide_eq_decide.2 (by omega))
       obtain ⟨c0, c1, _, _⟩ := HC2.out
       have HBW := hI_ hB
       clear hB hown
       go_wp2_with fail
       refine (pNeed_any k c n2 c2 a a2 hl _).mono ?_
       rintro e w5 ⟨rfl, hb5⟩
       have HB5 := hI_ (HBW.out.trans (hb5.mono HBW.out.size))
       clear hb5 c0 c1
       go_wp2_with fail
       go_ret
       exact ⟨by rw [HT.out]; first | rfl | simp, HB5.out⟩

def fr (V I : List Nat) : Nat → List Nat
 | 0 => []
 | k + 1 => if hasN (I.getD k 0) V && !hasN (I.getD k 0) (I.take k) then fr V I k ++ [I.getD k 0] else fr V I k
theorem fr_len (V I : List Nat) : ∀ k, (fr V I k).length = cntK V I k
 | 0 => rfl
 | k + 1 => by
  have := fr_len V I k
  simp only [fr, cntK]
  split <;> simp [this]
theorem fr_mem (V I : List Nat) (x : Nat) : ∀ k, k ≤ I.length → (x ∈ fr V I k ↔ x ∈ V ∧ x ∈ I.take k)
 | 0, _ => by simp [fr]
 | k + 1, hk => by
  have ih := fr_mem V I x k (by omega)
  have e : I.take (k + 1) = I.take k ++ [I.getD k 0] := by
   rw [List.take_add_one, List.getElem?_eq_getElem (by omega : k < I.length)]; simp [List.getD, List.getElem?_eq_getElem (by omega : k < I.length)]
  rw [e]
  simp only [fr]
  by_cases h : (hasN (I.getD k 0) V && !hasN (I.getD k 0) (I.take k)) = true
  · rw [if_pos h]
    simp only [Bool.and_eq_true, Bool.not_eq_true', hasN_not, hasN_iff] at h
    simp only [List.mem_append, ih, List.mem_singleton]
    constructor
    · rintro (⟨h1, h2⟩ | rfl)
      · exact ⟨h1, .inl h2⟩
      · exact ⟨h.1, .inr rfl⟩
    · rintro ⟨h1, h2 | rfl⟩
      · exact .inl ⟨h1, h2⟩
      · exact .inr rfl
  · rw [if_neg h, ih]
    simp only [List.mem_append, List.mem_singleton]
    constructor
    · rintro ⟨h1, h2⟩; exact ⟨h1, .inl h2⟩
    · rintro ⟨h1, h2 | rfl⟩
      · exact ⟨h1, h2⟩
      · refine ⟨h1, Classical.byContradiction fun h2 => h ?_⟩
        simp only [Bool.and_eq_true, Bool.not_eq_true', hasN_not, hasN_iff]
        exact ⟨h1, h2⟩
theorem fr_nodup (V I : List Nat) : ∀ k, k ≤ I.length → (fr V I k).Nodup
 | 0, _ => List.nodup_nil
 | k + 1, hk => by
  have ih := fr_nodup V I k (by omega)
  simp only [fr]
  by_cases h : (hasN (I.getD k 0) V && !hasN (I.getD k 0) (I.take k)) = true
  · rw [if_pos h]
    simp only [Bool.and_eq_true, Bool.not_eq_true', hasN_not, hasN_iff] at h
    refine List.nodup_append.2 ⟨ih, by simp, ?_⟩
    intro a ha b hb
    obtain rfl : b = I.getD k 0 := by simpa using hb
    rintro rfl
    exact h.2 ((fr_mem V I _ k (by omega)).1 ha).2
  · rw [if_neg h]; exact ih
theorem nodup_le : ∀ {A B : List Nat}, A.Nodup → (∀ x ∈ A, x ∈ B) → A.length ≤ B.length
 | [], _, _, _ => Nat.zero_le _
 | x :: r, B, hn, hs => by
  obtain ⟨h1, h2⟩ := List.nodup_cons.1 hn
  have hx := hs x (by simp)
  have := nodup_le (A := r) (B := B.erase x) h2 fun y hy => (List.mem_erase_of_ne (by rintro rfl; exact h1 hy)).2 (hs y (by simp [hy]))
  rw [List.length_erase_of_mem hx] at this
  have := List.length_pos_of_mem hx
  simp only [List.length_cons]; omega
theorem cntK_comm (V I : List Nat) : cntK V I I.length = cntK I V V.length := by
 rw [← fr_len, ← fr_len]
 have h1 := fun x => fr_mem V I x I.length (Nat.le_refl _)
 have h2 := fun x => fr_mem I V x V.length (Nat.le_refl _)
 simp only [List.take_length] at h1 h2
 exact Nat.le_antisymm (nodup_le (fr_nodup V I _ (Nat.le_refl _)) fun x hx => (h2 x).2 ⟨((h1 x).1 hx).2, ((h1 x).1 hx).1⟩) (nodup_le (fr_nodup I V _ (Nat.le_refl _)) fun x hx => (h1 x).2 ⟨((h2 x).1 hx).2, ((h2 x).1 hx).1⟩)
theorem rMost_any (n c n2 c2 m d : Nat) (a a2 a3 : Option Addr) (V I : List Nat) (hn : V.length = n) (hl : n ≤ 140737488351232) (hc : n ≤ c) (hc2 : c ≤ 9223372036854775807) (hm : I.length = m) (hl2 : m ≤ 140737488351232) (w : World) (hV : Us w a V) (hI : Us w a3 I) :
 Calls Tryz.prog 17 #[.agg #[.slice a n c, .slice a2 n2 c2], .slice a3 m d] w fun e w' => e = .returned (.bool (mostB V I)) ∧ Below w.heap.size w w' := by
 have B0 : Below w.heap.size w (w.alloc (.cells #[.slice a n c, .slice a2 n2 c2] 25)) := (Below.refl _ _).alloc (Nat.le_refl _) _
 have C0 := hI_ (Cb.new (w := w) rfl (.slice a n c) (.slice a2 n2 c2) 25)
 have HB0 := hI_ B0
 have HV := hI_ hV
 have HI := hI_ hI
 have HN := hI_ hn
 have HM := hI_ hm
 clear hV hI hn hm B0
 go_enter Tryz.func17, Tryz.ntmps17
 go_wp2_with fail
 generalize w.alloc (.cells #[.slice a n c, .slice a2 n2 c2] 25) = W at *
 go_loopw [5, 6] (fun cv i wr => ∃ k : Nat, k ≤ n ∧ i = .int .i64 k ∧ cv = .int .i64 (cntK I V k : Nat) ∧ Cb wr w.heap.size (.slice a n c) (.slice a2 n2 c2) ∧ Below w.heap.size w wr) (fun _ i _ => n - (intOf i).toNat)
 case atStart => exact ⟨0, Nat.zero_le _, rfl, rfl, C0.out, HB0.out⟩
 case round =>
  obtain ⟨k, hk, rfl, rfl, hC, hB⟩ := hrel
  have HC := hI_ hC
  obtain ⟨c0, c1, fz, lt⟩ := hC
  have HBB := hI_ hB
  have hcl := cntK_le I V k
  by_cases hlt : k < n
  · obtain ⟨x, hx⟩ : ∃ x, V[k]? = some x := ⟨_, List.getElem?_eq_getElem (by rw [HN.out]; exact hlt)⟩
    have i0 : (0 : Int) ≤ (k : Int) := by omega
    have i1 : (k : Int) < (n : Int) := by omega
    have i2 : (k : Int) ≤ (c : Int) := by omega
    obtain ⟨b, off, rfl, hb, p0⟩ := HV.out.later hB k x hx
    have hs : cntK I V (k + 1) = cntK I V k + if hasN x I && !hasN x (V.take k) then 1 else 0 := by simp only [cntK]; rw [show V.getD k 0 = x by simp [List.getD, hx]]
    obtain ⟨had, hhad⟩ : ∃ h, hasN x (V.take k) = h := ⟨_, rfl⟩
    obtain ⟨is, his⟩ : ∃ h, hasN x I = h := ⟨_, rfl⟩
    rw [hhad, his] at hs
    have HS := hI_ hs
    have HH := hI_ hhad
    have HIS := hI_ his
    have hq : ∀ q, Calls Tryz.prog 41 #[.slice (some ⟨b, off, none⟩) k c, .int .u64 x] (wr.drewN q) fun e w' => e = .returned (.bool had) ∧ w' = wr.drewN q := fun q => (rHas_any x k c _ (V.take k) (by rw [List.length_take]; have := HN.out; omega) (by omega) _ ((HV.out.later (below_drewN HBB.out q)).take k)).mono fun _ _ h => ⟨h.1.trans (by rw [HH.out]), h.2.symm⟩
    have HQ := hI_ hq
    clear hx hB hs hhad his hq
    go_wp2_with fail
    go_quiet ((go_at_call 41; exact Calls.quiet_of_same (HQ.out _)))
    go_wp2_with fail
    refine (rHas_any x m d a3 I HM.out hl2 _ (HI.out.later (below_drewN HBB.out _))).mono ?_
    rintro e w5 ⟨rfl, rfl⟩
    rw [HIS.out]
    have HCB := hI_ (And.intro (HC.out.later (below_drewN (Below.refl _ _) nq)) (below_drewN HBB.out nq))
    cases is
    · go_wp2_with fail
      go_roundw
      case rel => exact ⟨k + 1, by omega, by go_num, by rw [HS.out]; rfl, HCB.out.1, HCB.out.2⟩
      case measure => simp [intOf]; omega
    · cases had
      · go_wp2_with fail
        go_roundw
        case rel => exact ⟨k + 1, by omega, by go_num, by rw [HS.out]; go_num, HCB.out.1, HCB.out.2⟩
        case measure => simp [intOf]; omega
      · go_wp2_with fail
        go_roundw
        case rel => exact ⟨k + 1, by omega, by go_num, by rw [HS.out]; rfl, HCB.out.1, HCB.out.2⟩
        case measure => simp [intOf]; omega
  · have hkn : k = n := by omega
    subst hkn
    have HT := hI_ (show mostB V I = decide (((k / 2 + 1 : Nat) : Int) ≤ (cntK I V k : Nat)) by unfold mostB; rw [cntK_comm, HN.out]; exact decide_eq_decide.2 (by omega))
    clear hB hlt
    go_wp2_with fail
    go_ret
    exact ⟨by rw [HT.out]; first | rfl | simp, HBB.out⟩




def NxP (w : World) (V L : List Nat) (k : Int) (e : Ending) (w' : World) : Prop := ∃ a c a2 c2, e = .returned (.tuple #[.agg #[.slice a V.length c, .slice a2 L.length c2], .int .i64 k]) ∧ Us w' a V ∧ Us w' a2 L ∧ (0 < V.length → ∀ q, a = some q → w.heap.size ≤ q.block) ∧ (0 < L.length → ∀ q, a2 = some q → w.heap.size ≤ q.block) ∧ Below w.heap.size w w'
theorem keepB {w w1 w2 : World} {u v : Value} (h : w1.cell? ⟨w.heap.size, 0, none⟩ = some u ∧ w1.cell? ⟨w.heap.size, 1, none⟩ = some v ∧ w.heap.size + 1 < w1.heap.size ∧ Below w.heap.size w w1) (hb : Below w1.heap.size w1 w2) :
 w2.cell? ⟨w.heap.size, 0, none⟩ = some u ∧ w2.cell? ⟨w.heap.size, 1, none⟩ = some v ∧ w.heap.size + 1 < w2.heap.size ∧ Below w.heap.size w w2 := by
 obtain ⟨h0, h1, h2, h3⟩ := h
 exact ⟨(hb.cell (p := ⟨w.heap.size, 0, none⟩) (by simp; omega)).trans h0, (hb.cell (p := ⟨w.heap.size, 1, none⟩) (by simp; omega)).trans h1, Nat.lt_of_lt_of_le h2 hb.size, h3.trans (hb.mono h3.size)⟩
def NxF (w : World) (r : (List Nat × List Nat) × Int) (e : Ending) (w' : World) : Prop := NxP w r.1.1 r.1.2 r.2 e w'
theorem nx_no {w w' : World} {r : (List Nat × List Nat) × Int} {k : Int} (h : r = (([], []), k)) (hb : Below w.heap.size w w') : NxF w r (.returned (.tuple #[.agg #[.slice none 0 0, .slice none 0 0], .int .i64 k])) w' := by
 subst h; exact ⟨none, 0, none, 0, rfl, Us.nil _ _, Us.nil _ _, fun h => absurd h (Nat.not_lt_zero _), fun h => absurd h (Nat.not_lt_zero _), hb⟩
theorem nx_yes {w w' : World} {r : (List Nat × List Nat) × Int} {V L : List Nat} {a a2 : Option Addr} {n c n2 c2 : Nat} (h : r = ((V, L), 0)) (hn : V.length = n) (hn2 : L.length = n2) (h1 : Us w' a V) (h2 : Us w' a2 L) (h3 : 0 < V.length → ∀ q, a = some q → w.heap.size ≤ q.block) (h4 : 0 < L.length → ∀ q, a2 = some q → w.heap.size ≤ q.block) (hb : Below w.heap.size w w') : NxF w r (.returned (.tuple #[.agg #[.slice a n c, .slice a2 n2 c2], .int .i64 0])) w' := by
 subst h hn hn2; exact ⟨a, c, a2, c2, rfl, h1, h2, h3, h4, hb⟩
theorem not_has {id : Nat} {L : List Nat} (h : hasN id L = false) : id ∉ L := hasN_not.1 h
theorem two_below {w w' : World} (h : Below w.heap.size w w') (u v : Value) : Below w.heap.size w ((w'.setCell ⟨w.heap.size + 1, 0, none⟩ u).setCell ⟨w.heap.size + 1, 1, none⟩ v) := (h.setCell (Nat.le_succ _) u).setCell (Nat.le_succ _) v
theorem keepT {w w1 : World} {u v : Value} (h : w1.cell? ⟨w.heap.size, 0, none⟩ = some u ∧ w1.cell? ⟨w.heap.size, 1, none⟩ = some v ∧ w.heap.size + 1 < w1.heap.size ∧ Below w.heap.size w w1) (p q : Value) :
 ((w1.setCell ⟨w.heap.size + 1, 0, none⟩ p).setCell ⟨w.heap.size + 1, 1, none⟩ q).cell? ⟨w.heap.size, 0, none⟩ = some u ∧ ((w1.setCell ⟨w.heap.size + 1, 0, none⟩ p).setCell ⟨w.heap.size + 1, 1, none⟩ q).cell? ⟨w.heap.size, 1, none⟩ = some v ∧ w.heap.size + 1 < ((w1.setCell ⟨w.heap.size + 1, 0, none⟩ p).setCell ⟨w.heap.size + 1, 1, none⟩ q).heap.size ∧ Below w.heap.size w ((w1.setCell ⟨w.heap.size + 1, 0, none⟩ p).setCell ⟨w.heap.size + 1, 1, none⟩ q) := by
 obtain ⟨h0, h1, h2, h3⟩ := h
 have hne : w.heap.size + 1 ≠ w.heap.size := by omega
 exact ⟨(World.cell?_setCell_far _ _ _ _ hne).trans ((World.cell?_setCell_far _ _ _ _ hne).trans h0), (World.cell?_setCell_far _ _ _ _ hne).trans ((World.cell?_setCell_far _ _ _ _ hne).trans h1), by simpa using h2, two_below h3 p q⟩
theorem us_two' {w w1 : World} {a : Option Addr} {L : List Nat} (h : Us w1 a L) (hne : 0 < L.length → ∀ q, a = some q → q.block ≠ w.heap.size + 1) (p q : Value) : Us ((w1.setCell ⟨w.heap.size + 1, 0, none⟩ p).setCell ⟨w.heap.size + 1, 1, none⟩ q) a L := (h.set' hne 0 p).set' hne 1 q
theorem risesF_iff {L : List Nat} : ∀ {p : Nat}, risesF p L = true ↔ (∀ x ∈ L, p < x ∧ x ≤ 63) ∧ L.Pairwise (· < ·) := by
 induction L with
 | nil => intro p; simp [risesF]
 | cons x r ih =>
  intro p
  simp only [risesF, Bool.and_eq_true, decide_eq_true_eq, ih (p := x), List.pairwise_cons, List.mem_cons]
  constructor
  · rintro ⟨⟨h1, h2⟩, h3, h4⟩
    refine ⟨?_, fun y hy => (h3 y hy).1, h4⟩
    rintro y (rfl | hy)
    · exact ⟨h1, h2⟩
    · have := h3 y hy; exact ⟨by omega, this.2⟩
  · rintro ⟨h1, h2, h3⟩
    exact ⟨h1 x (.inl rfl), fun y hy => ⟨h2 y hy, (h1 y (.inr hy)).2⟩, h3⟩
theorem bothN_iff {V L : List Nat} : bothN V L = true ↔ ∃ x ∈ L, x ∈ V := by
 induction L with
 | nil => simp [bothN]
 | cons y r ih => simp only [bothN, Bool.or_eq_true, ih, hasN_iff, List.mem_cons, exists_eq_or_imp]
theorem mayB_iff {V L : List Nat} : mayB V L = true ↔ (0 < V.length ∧ V.length ≤ 7 ∧ L.length ≤ 3) ∧ (∀ x ∈ V, 0 < x ∧ x ≤ 63) ∧ V.Pairwise (· < ·) ∧ (∀ x ∈ L, 0 < x ∧ x ≤ 63) ∧ L.Pairwise (· < ·) ∧ ∀ x ∈ L, x ∉ V := by
 unfold mayB membB
 simp only [Bool.and_eq_true, decide_eq_true_eq, risesF_iff, Bool.not_eq_true']
 constructor
 · rintro ⟨⟨⟨h1, h2, h3, h4⟩, h5, h6, h7⟩, h8⟩
   refine ⟨⟨h1, h2, h5⟩, h3, h4, h6, h7, fun x hx hv => ?_⟩
   have := bothN_iff.2 ⟨x, hx, hv⟩
   rw [h8] at this; cases this
 · rintro ⟨⟨h1, h2, h5⟩, h3, h4, h6, h7, h8⟩
   refine ⟨⟨⟨h1, h2, h3, h4⟩, h5, h6, h7⟩, ?_⟩
   cases hb : bothN V L with
   | false => rfl
   | true => obtain ⟨x, hx, hv⟩ := bothN_iff.1 hb; exact absurd hv (h8 x hx)

def byG (V L : List Nat) : List UInt8 := if mayB V L then numsB V ++ numsB L else []
def erG (V L : List Nat) : Nat := if mayB V L then 0 else 1
theorem mk_app (A B : List UInt8) : (⟨A.toArray⟩ : ByteArray) ++ ⟨B.toArray⟩ = ⟨(A ++ B).toArray⟩ := by
 apply ByteArray.ext; simp [ByteArray.data_append]
theorem nums_room {V L : List Nat} (h : (V.length ≤ 7 ∧ L.length ≤ 3) ∧ (∀ x ∈ V, x < 4611686018427387904) ∧ ∀ x ∈ L, x < 4611686018427387904) : (numsB V).length + (numsB L).length ≤ 96 := by
 have h1 := preB_le V h.2.1 (by have := h.1.1; omega) V.length (Nat.le_refl _)
 have h2 := preB_le L h.2.2 (by have := h.1.2; omega) L.length (Nat.le_refl _)
 rw [preB_all] at h1 h2
 have := h.1
 omega
theorem may_small {V L : List Nat} (h : mayB V L = true) : (V.length ≤ 7 ∧ L.length ≤ 3) ∧ (∀ x ∈ V, x < 4611686018427387904) ∧ ∀ x ∈ L, x < 4611686018427387904 := by
 obtain ⟨⟨_, h1, h2⟩, h3, _, h4, _⟩ := mayB_iff.1 h
 exact ⟨⟨h1, h2⟩, fun x hx => by have := (h3 x hx).2; omega, fun x hx => by have := (h4 x hx).2; omega⟩
end Go.Proofs.YtdcpiaoadbbdoaaGreat
