/- Which configurations may be: the program's May and Need, the document's May. -/
import Derived.Test.YtdcpiaoadbbdoaaGreatDoorRb
import Derived.Test.YtdcpiaoadbbdoaaGreatDoorGc
import Derived.Maps.OwnSet
import Derived.Lib.Hide
import Derived.Lib.FrozenHead
import Derived.Deep.AppendSrc
import Derived.Laws.IdiomCopy
import Derived.Deep.RegionHeld3
import Derived.Deep.RegionLaw
import Derived.Deep.RegionWith
import Derived.Deep.Upon
import Derived.Deep.Cut
import Derived.Deep.DeepCutAuto
set_option maxRecDepth 100000
set_option maxHeartbeats 16000000
namespace Go.Proofs.YtdcpiaoadbbdoaaGreatDoor
open Go.RowKit

def mayB (V L : List Nat) : Bool := decide (0 < V.length) && membB 7 V && membB 3 L && !bothN V L
theorem pMay_any (n c n2 c2 : Nat) (a a2 : Option Addr) (V L : List Nat) (hn : V.length = n) (hl : n ≤ 140737488351232) (hn2 : L.length = n2) (hl2 : n2 ≤ 140737488351232) (w : World) (hV : Us w a V) (hU : Us w a2 L) :
 Calls Tryz.prog 56 #[.agg #[.slice a n c, .slice a2 n2 c2]] w fun e w' => e = .returned (.bool (mayB V L)) ∧ Below w.heap.size w w' := by
 have B0 : Below w.heap.size w (w.alloc (.cells #[.slice a n c, .slice a2 n2 c2] 25)) := (Below.refl _ _).alloc (Nat.le_refl _) _
 have C0 := Cb.new (w := w) rfl (.slice a n c) (.slice a2 n2 c2) 25
 have HV := hI_ (hV.later B0)
 have HU := hI_ (hU.later B0)
 have HB := hI_ B0
 have HC := hI_ C0
 clear hV hU B0 C0
 obtain ⟨m1, hm1⟩ : ∃ m1, membB 7 V = m1 := ⟨_, rfl⟩
 obtain ⟨m2, hm2⟩ : ∃ m2, membB 3 L = m2 := ⟨_, rfl⟩
 obtain ⟨m3, hm3⟩ : ∃ m3, bothN V L = m3 := ⟨_, rfl⟩
 have HM1 := hI_ hm1
 have HM2 := hI_ hm2
 have HM3 := hI_ hm3
 by_cases h0 : 0 < n
 case neg =>
  have g0 : ¬ (0 : Int) < (n : Int) := by omega
  have HT := hI_ (show mayB V L = false by unfold mayB; rw [hn, decide_eq_false h0]; rfl)
  clear hm1 hm2 hm3
  go_enter Tryz.func56, Tryz.ntmps56
  go_wp2_with fail
  go_ret
  exact ⟨by rw [HT.out]; first | rfl | simp, HB.out⟩
 have g0 : (0 : Int) < (n : Int) := by omega
 have HT := hI_ (show mayB V L = (m1 && m2 && !m3) by unfold mayB; rw [hn, decide_eq_true h0, hm1, hm2, hm3]; rfl)
 have HN := hI_ hn
 have HN2 := hI_ hn2
 clear hm1 hm2 hm3 hn hn2 h0
 go_enter Tryz.func56, Tryz.ntmps56
 go_wp2_with fail
 refine (pMemb_any n c 7 a V HN.out hl _ HV.out).mono ?_
 rintro e w2 ⟨rfl, rfl⟩
 rw [HM1.out]
 cases m1
 · go_wp2_with fail
   go_ret
   exact ⟨by rw [HT.out]; first | rfl | simp, HB.out⟩
 go_wp2_with fail
 refine (pMemb_any n2 c2 3 a2 L HN2.out hl2 _ HU.out).mono ?_
 rintro e w2 ⟨rfl, rfl⟩
 rw [HM2.out]
 cases m2
 · go_wp2_with fail
   go_ret
   exact ⟨by rw [HT.out]; first | rfl | simp, HB.out⟩
 go_wp2_with fail
 refine (pContainsF_any n c w.heap.size n2 c2 a a2 V L HN.out hl HN2.out hl2 _ HV.out HU.out _ HC.out).mono ?_
 rintro e w2 ⟨rfl, rfl⟩
 rw [HM3.out]
 go_wp2_with fail
 go_ret
 exact ⟨by rw [HT.out]; first | rfl | simp, HB.out⟩
theorem pNeed_any (n c n2 c2 : Nat) (a a2 : Option Addr) (hl : n ≤ 140737488351232) (w : World) :
 Calls Tryz.prog 168 #[.agg #[.slice a n c, .slice a2 n2 c2]] w fun e w' => e = .returned (.int .i64 (n / 2 + 1 : Nat)) ∧ Below w.heap.size w w' := by
 have B0 : Below w.heap.size w (w.alloc (.cells #[.slice a n c, .slice a2 n2 c2] 25)) := (Below.refl _ _).alloc (Nat.le_refl _) _
 have HB := hI_ B0
 clear B0
 go_enter Tryz.func168, Tryz.ntmps168
 go_wp2_with fail
 go_ret
 exact ⟨by first | rfl | go_num, HB.out⟩
theorem rMay_any (n c n2 c2 : Nat) (a a2 : Option Addr) (V L : List Nat) (hn : V.length = n) (hl : n ≤ 140737488351232) (hn2 : L.length = n2) (hl2 : n2 ≤ 140737488351232) (w : World) (hV : Us w a V) (hU : Us w a2 L) :
 Calls Tryz.prog 23 #[.agg #[.slice a n c, .slice a2 n2 c2]] w fun e w' => e = .returned (.bool (mayB V L)) ∧ Below w.heap.size w w' := by
 have B0 : Below w.heap.size w (w.alloc (.cells #[.slice a n c, .slice a2 n2 c2] 25)) := (Below.refl _ _).alloc (Nat.le_refl _) _
 have C0 := Cb.new (w := w) rfl (.slice a n c) (.slice a2 n2 c2) 25
 have HV := hI_ (hV.later B0)
 have HU := hI_ (hU.later B0)
 obtain ⟨m1, hm1⟩ : ∃ m1, risesF 0 V = m1 := ⟨_, rfl⟩
 obtain ⟨m2, hm2⟩ : ∃ m2, risesF 0 L = m2 := ⟨_, rfl⟩
 have HM1 := hI_ hm1
 have HM2 := hI_ hm2
 have HT := hI_ (show mayB V L = (decide (0 < n) && (decide (n ≤ 7) && m1) && (decide (n2 ≤ 3) && m2) && !bothN V L) by unfold mayB membB; rw [hn, hn2, hm1, hm2])
 have HN := hI_ hn
 have HN2 := hI_ hn2
 clear hm1 hm2 hn hn2 hV hU
 go_enter Tryz.func23, Tryz.ntmps23
 go_wp2_with fail
 obtain ⟨c0, c1, fz, lt⟩ := C0
 go_wp2_with fail
 refine (rRises_any n c a V HN.out hl _ HV.out).mono ?_
 rintro e w1 ⟨rfl, hb1⟩
 rw [HM1.out]
 have B1 := B0.trans (hb1.mono B0.size)
 have C1 := (Cb.mk c0 c1 fz lt).later hb1
 have HV1 := hI_ (HV.out.later hb1)
 have HU1 := hI_ (HU.out.later hb1)
 clear c0 c1 fz lt hb1 B0 HV HU
 obtain ⟨c0, c1, fz, lt⟩ := C1
 go_wp2_with fail
 refine (rRises_any n2 c2 a2 L HN2.out hl2 _ HU1.out).mono ?_
 rintro e w2 ⟨rfl, hb2⟩
 rw [HM2.out]
 have B2 := B1.trans (hb2.mono B1.size)
 have C2 := (Cb.mk c0 c1 fz lt).later hb2
 have HV2 := hI_ (HV1.out.later hb2)
 have HU2 := hI_ (HU1.out.later hb2)
 have HB2 := hI_ B2
 clear c0 c1 fz lt hb2 B1 HV1 HU1 B2
 obtain ⟨c0, c1, fz, lt⟩ := C2
 generalize hW : w2 = W at *
 clear hW
 cases m1
 · go_wp2_with fail
   go_ret
   exact ⟨by rw [HT.out]; simp, HB2.out⟩
 cases m2
 · go_wp2_with fail
   go_ret
   exact ⟨by rw [HT.out]; simp, HB2.out⟩
 by_cases h0 : 0 < n
 case neg =>
  have g0 : (n : Int) < 1 := by omega
  go_wp2_with fail
  go_ret
  exact ⟨by rw [HT.out, decide_eq_false h0]; simp, HB2.out⟩
 have g0 : ¬ (n : Int) < 1 := by omega
 by_cases h1 : n ≤ 7
 case neg =>
  have g1 : (7 : Int) < (n : Int) := by omega
  go_wp2_with fail
  go_ret
  exact ⟨by rw [HT.out, decide_eq_false h1]; simp, HB2.out⟩
 have g1 : ¬ (7 : Int) < (n : Int) := by omega
 by_cases h2 : n2 ≤ 3
 case neg =>
  have g2 : (3 : Int) < (n2 : Int) := by omega
  go_wp2_with fail
  go_ret
  exact ⟨by rw [HT.out, decide_eq_false h2]; simp, HB2.out⟩
 have g2 : ¬ (3 : Int) < (n2 : Int) := by omega
 have HTT := hI_ (show mayB V L = !bothN V L by rw [HT.out, decide_eq_true h0, decide_eq_true h1, decide_eq_true h2]; simp)
 clear HT h0 h1 h2
 go_wp2_with fail
 go_loopw [5] (fun u wr => ∃ k : Nat, k ≤ n2 ∧ u = .int .i64 k ∧ bothN V L = bothN V (L.drop k) ∧ Below W.heap.size W wr) (fun u _ => n2 - (intOf u).toNat)
 case atStart => exact ⟨0, Nat.zero_le _, rfl, rfl, Below.refl _ _⟩
 case round =>
  obtain ⟨k, hk, rfl, hf, hB⟩ := hrel
  have HFB := hI_ hf
  clear hf
  have CC := (Cb.mk c0 c1 fz lt).later hB
  clear c0 c1 fz lt
  obtain ⟨c0, c1, fz, lt⟩ := CC
  have HBB := hI_ (HB2.out.trans (hB.mono HB2.out.size))
  by_cases hlt : k < n2
  · obtain ⟨y, hx⟩ : ∃ y, L[k]? = some y := ⟨_, List.getElem?_eq_getElem (by rw [HN2.out]; exact hlt)⟩
    have i0 : (0 : Int) ≤ (k : Int) := by omega
    have i1 : (k : Int) < (n2 : Int) := by omega
    obtain ⟨b, off, rfl, hb, p0⟩ := HU2.out.later hB k y hx
    have HFA := hI_ (HFB.out.trans (bothN_at (V := V) hx))
    have HV3 := hI_ (HV2.out.later hB)
    have HBW := hI_ hB
    clear hx hB
    obtain ⟨h, hh⟩ : ∃ h, hasN y V = h := ⟨_, rfl⟩
    have HH := hI_ hh
    clear hh
    cases h
    · have HTF := hI_ (show bothN V L = bothN V (L.drop (k + 1)) by rw [HFA.out, HH.out]; rfl)
      go_wp2_with fail
      go_quiet ((go_at_call 38; exact Calls.quiet_of_same ((rHas_any y n c a V HN.out hl _ (HV3.out.later (below_drewN (Below.refl _ _) _))).mono fun _ _ h => ⟨h.1.trans (by rw [HH.out]), h.2.symm⟩)))
      go_wp2_with fail
      go_roundw
      case rel => exact ⟨k + 1, by omega, by go_num, HTF.out, below_drewN HBW.out _⟩
      case measure => simp [intOf]; omega
    · have HTF := hI_ (show mayB V L = false by rw [HTT.out, HFA.out, HH.out]; rfl)
      go_wp2_with fail
      go_quiet ((go_at_call 38; exact Calls.quiet_of_same ((rHas_any y n c a V HN.out hl _ (HV3.out.later (below_drewN (Below.refl _ _) _))).mono fun _ _ h => ⟨h.1.trans (by rw [HH.out]), h.2.symm⟩)))
      go_wp2_with fail
      go_ret
      exact ⟨by rw [HTF.out]; first | rfl | simp, below_drewN HBB.out _⟩
  · have HTF := hI_ (show mayB V L = true by rw [HTT.out, HFB.out, List.drop_eq_nil_of_le (by rw [HN2.out]; omega)]; rfl)
    go_wp2_with fail
    go_ret
    exact ⟨by rw [HTF.out]; first | rfl | simp, HBB.out⟩
end Go.Proofs.YtdcpiaoadbbdoaaGreatDoor
/- Majorities: the program's Most. -/
set_option maxRecDepth 100000
set_option maxHeartbeats 16000000
namespace Go.Proofs.YtdcpiaoadbbdoaaGreatDoor
open Go.RowKit Go.Maps

def cntK (V I : List Nat) : Nat → Nat
 | 0 => 0
 | k + 1 => cntK V I k + if hasN (I.getD k 0) V && !hasN (I.getD k 0) (I.take k) then 1 else 0
theorem cntK_le (V I : List Nat) : ∀ k, cntK V I k ≤ k
 | 0 => Nat.le_refl _
 | k + 1 => by have := cntK_le V I k; simp only [cntK]; split <;> omega
def mostB (V I : List Nat) : Bool := decide (V.length / 2 + 1 ≤ cntK V I I.length)
theorem hasN_app (x : Nat) (A B : List Nat) : hasN x (A ++ B) = (hasN x A || hasN x B) := by
 induction A with
 | nil => rfl
 | cons y r ih => simp only [List.cons_append, hasN, ih, Bool.or_assoc]
theorem hasN_take_succ {k x y : Nat} {V : List Nat} (h : V[k]? = some y) : hasN x (V.take (k + 1)) = (hasN x (V.take k) || decide (y = x)) := by
 rw [List.take_add_one, h, hasN_app]; simp [hasN]
theorem keyed64 : Keyed Tryz.prog 22 := int_keyed Tryz.underlying22
theorem zeroUnit (w : World) : (zeroValue 224).run Tryz.prog w = .ok (.agg #[]) w := by kernel_rfl
theorem key64 (x : Nat) (h : x < 18446744073709551616) : keyOf Tryz.prog 22 (.int .u64 (x : Nat)) = some (.int .u64 (x : Nat)) := by
 refine keyOf_int_mk Tryz.underlying22 ?_
 simp [Lit.wf, IntKind.min, IntKind.max, IntKind.signed, IntKind.bits]; omega
theorem lit64_ne {x y : Nat} (h : x ≠ y) : (Lit.int .u64 (x : Int)) ≠ .int .u64 (y : Int) := by
 intro e; injection e with _ e; exact h (by omega)
theorem lit64_key (x : Nat) : WideAt.IsKeyLit (.int .u64 (x : Int)) := trivial
theorem pMost_any (n c n2 c2 m d : Nat) (a a2 a3 : Option Addr) (V I : List Nat) (hn : V.length = n) (hl : n ≤ 140737488351232) (hm : I.length = m) (hl2 : m ≤ 140737488351232) (hb1 : ∀ x ∈ V, x < 18446744073709551616) (hb2 : ∀ x ∈ I, x < 18446744073709551616) (w : World) (hV : Us w a V) (hI : Us w a3 I) :
 Calls Tryz.prog 183 #[.agg #[.slice a n c, .slice a2 n2 c2], .slice a3 m d] w fun e w' => e = .returned (.bool (mostB V I)) ∧ Below w.heap.size w w' := by
 have hmm := @run_makeMap Tryz.prog
 have B0 : Below w.heap.size w (w.alloc (.cells #[.slice a n c, .slice a2 n2 c2] 25)) := (Below.refl _ _).alloc (Nat.le_refl _) _
 have C0 := Cb.new (w := w) rfl (.slice a n c) (.slice a2 n2 c2) 25
 have HB0 := hI_ B0
 have HV := hI_ hV
 have HI := hI_ hI
 have HN := hI_ hn
 have HM := hI_ hm
 have HB1 := hI_ hb1
 have HB2 := hI_ hb2
 clear hV hI hn hm hb1 hb2 B0
 go_enter Tryz.func183, Tryz.ntmps183
 go_wp2_with fail
 have es : (w.alloc (.cells #[.slice a n c, .slice a2 n2 c2] 25)).heap.size = w.heap.size + 1 := by simp
 have HM0 := hI_ (show (((w.alloc (.cells #[.slice a n c, .slice a2 n2 c2] 25)).alloc (.map #[] 0)).ownsMap Tryz.prog 22 (unitElem (H := Unit)) (w.heap.size + 1) 0 (.map [])) from by
  have h := World.ownsMap_made (H := Unit) (w.alloc (.cells #[.slice a n c, .slice a2 n2 c2] 25)) Tryz.prog 22 unitElem
  rw [es] at h; exact h)
 have HK0 := hI_ (C0.past (.map #[] 0))
 have HA := hI_ ((Below.refl w.heap.size w).alloc (Nat.le_refl _) (.cells #[.slice a n c, .slice a2 n2 c2] 25) |>.alloc (by simp) (.map #[] 0))
 clear C0 es hmm
 generalize (w.alloc (.cells #[.slice a n c, .slice a2 n2 c2] 25)).alloc (.map #[] 0) = W0 at *
 go_loopw [17] (fun i wr => ∃ (k : Nat) (D : DataW Unit), k ≤ n ∧ i = .int .i64 k ∧ wr.ownsMap Tryz.prog 22 (unitElem (H := Unit)) (w.heap.size + 1) k D ∧ (∀ x : Nat, Maps.has D (.int .u64 (x : Int)) = hasN x (V.take k)) ∧ Cb wr w.heap.size (.slice a n c) (.slice a2 n2 c2) ∧ Below w.heap.size w wr) (fun i _ => n - (intOf i).toNat)
 case atStart => exact ⟨0, _, Nat.zero_le _, rfl, HM0.out, fun x => rfl, HK0.out, HA.out⟩
 case round =>
  obtain ⟨k, D, hk, rfl, hown, hD, hC, hB⟩ := hrel
  have HD := hI_ hD
  have HC := hI_ hC
  clear hD hC
  by_cases hlt : k < n
  · obtain ⟨x, hx⟩ : ∃ x, V[k]? = some x := ⟨_, List.getElem?_eq_getElem (by rw [HN.out]; exact hlt)⟩
    have i0 : (0 : Int) ≤ (k : Int) := by omega
    have i1 : (k : Int) < (n : Int) := by omega
    have hkey := key64 x (HB1.out x (List.mem_of_getElem? hx))
    obtain ⟨b, off, rfl, hb, p0⟩ := HV.out.later hB k x hx
    have HT := hI_ (show ∀ y : Nat, Maps.has (D.put (.int .u64 (x : Int)) (.agg [])) (.int .u64 (y : Int)) = hasN y (V.take (k + 1)) from fun y => by
     rw [hasN_take_succ hx]
     by_cases h : x = y
     · subst h; rw [has_put_same hown.isMap (lit64_key x)]; simp
     · rw [has_put_other (lit64_ne (Ne.symm h)), HD.out y]; simp [h])
    clear hx
    go_wp2_with (first
     | (at_mapUpdate; refine wpList_mapUpdate_own _ rfl _ _ _ 242 rfl 22 224 keyed64 Tryz.underlying242 (unitElem (H := Unit)) (w.heap.size + 1) k _ rfl hown (by unfold maxLen; omega) _ _ _ rfl rfl hkey _ [] unitElem_mk ?_; intro w1 hown1 hgrow1)
     | go_in)
    have hB1 : Below w.heap.size w w1 := hB.grown hgrow1 hB.size (fun j hj => by cases hj; omega)
    have hC1 := HC.out.under (B := w.heap.size + 1) (Nat.lt_succ_self _) ((Below.refl _ wr).grown hgrow1 (by have := hown.lt; omega) (fun j hj => by cases hj; exact Nat.le_refl _))
    have HO := hI_ hown1
    have HBC := hI_ (And.intro hC1 hB1)
    clear hown hown1 hB hB1 hC1 hgrow1 hkey
    go_roundw
    case rel => exact ⟨k + 1, _, by omega, by go_num, HO.out, HT.out, HBC.out.1, HBC.out.2⟩
    case measure => simp [intOf]; omega
  · have hkn : k = n := by omega
    subst hkn
    have HD1 := hI_ (show ∀ x : Nat, Maps.has D (.int .u64 (x : Int)) = hasN x V from fun x => by rw [HD.out x, List.take_of_length_le (by rw [HN.out]; exact Nat.le_refl _)])
    have HO := hI_ hown
    have HBW := hI_ hB
    clear hown hB hlt
    go_wp2_with fail
    go_loopw [8, 27] (fun cv i w2 => ∃ (j : Nat) (D : DataW Unit), j ≤ m ∧ i = .int .i64 j ∧ cv = .int .i64 (cntK V I j : Nat) ∧ w2.ownsMap Tryz.prog 22 (unitElem (H := Unit)) (w.heap.size + 1) k D ∧ (∀ x : Nat, Maps.has D (.int .u64 (x : Int)) = (hasN x V && !hasN x (I.take j))) ∧ Cb w2 w.heap.size (.slice a k c) (.slice a2 n2 c2) ∧ Below w.heap.size w w2) (fun _ i _ => m - (intOf i).toNat)
    case atStart => exact ⟨0, D, Nat.zero_le _, rfl, rfl, HO.out, fun x => by rw [HD1.out x]; simp [hasN], HC.out, HBW.out⟩
    case round =>
     obtain ⟨j, D2, hj, rfl, rfl, hown, hD, hC, hB⟩ := hrel
     have HD := hI_ hD
     have HC2 := hI_ hC
     clear hD hC
     by_cases hlt : j < m
     · obtain ⟨x, hx⟩ : ∃ x, I[j]? = some x := ⟨_, List.getElem?_eq_getElem (by rw [HM.out]; exact hlt)⟩
       have i0 : (0 : Int) ≤ (j : Int) := by omega
       have i1 : (j : Int) < (m : Int) := by omega
       have hcl := cntK_le V I j
       have hkey := key64 x (HB2.out x (List.mem_of_getElem? hx))
       obtain ⟨b, off, rfl, hb, p0⟩ := HI.out.later hB j x hx
       have hs : cntK V I (j + 1) = cntK V I j + if hasN x V && !hasN x (I.take j) then 1 else 0 := by simp only [cntK]; rw [show I.getD j 0 = x by simp [List.getD, hx]]
       have HX := hI_ hx
       clear hx
       obtain ⟨h, hh⟩ : ∃ h, Maps.has D2 (.int .u64 (x : Int)) = h := ⟨_, rfl⟩
       have hh2 := hh
       rw [HD.out x] at hh2
       rw [hh2] at hs
       have HS := hI_ hs
       have HH := hI_ hh
       clear hh hh2 hs
       cases h
       · have HT := hI_ (show ∀ y : Nat, Maps.has D2 (.int .u64 (y : Int)) = (hasN y V && !hasN y (I.take (j + 1))) from fun y => by
          rw [hasN_take_succ HX.out, HD.out y]
          by_cases h : x = y
          · subst h
            have h2 := HH.out
            rw [HD.out x] at h2
            rw [h2]; simp at h2 ⊢
          · simp [h])
         go_wp2_with (first
          | (at_lookup; refine wpList_lookup_own_unit _ rfl _ _ 242 rfl 22 224 keyed64 Tryz.underlying242 (zeroUnit _) (w.heap.size + 1) k _ rfl hown _ _ rfl hkey ?_; rw [HH.out])
          | go_in)
         have HO2 := hI_ (And.intro (hown.alloc (.cells #[] 224)) (And.intro (HC2.out.past (.cells #[] 224)) (hB.alloc hB.size (.cells #[] 224))))
         clear hown hB hkey
         go_roundw
         case rel => exact ⟨j + 1, D2, by omega, by go_num, by rw [HS.out]; rfl, HO2.out.1, HT.out, HO2.out.2.1, HO2.out.2.2⟩
         case measure => simp [intOf]; omega
       · have HT := hI_ (show ∀ y : Nat, Maps.has (D2.del (.int .u64 (x : Int))) (.int .u64 (y : Int)) = (hasN y V && !hasN y (I.take (j + 1))) from fun y => by
          rw [hasN_take_succ HX.out]
          by_cases h : x = y
          · subst h
            rw [has_del_same]; simp
          · rw [has_del_other (lit64_ne (Ne.symm h)), HD.out y]; simp [h])
         go_wp2_with (first
          | (at_lookup; refine wpList_lookup_own_unit _ rfl _ _ 242 rfl 22 224 keyed64 Tryz.underlying242 (zeroUnit _) (w.heap.size + 1) k _ rfl hown _ _ rfl hkey ?_; rw [HH.out])
          | (at_delete; refine wpList_delete_own _ rfl _ _ 242 22 rfl 224 keyed64 Tryz.underlying242 _ (w.heap.size + 1) k _ rfl (hown.alloc _) _ _ rfl hkey ?_; intro w3 hown3 hturn3)
          | go_in)
         have hB3 := hB.alloc hB.size (.cells #[] 224)
         have hg3 := hturn3.grown
         have hB4 : Below w.heap.size w w3 := hB3.grown hg3 hB3.size (fun j hj => by cases hj; omega)
         have hC4 := (HC2.out.past (.cells #[] 224)).under (B := w.heap.size + 1) (Nat.lt_succ_self _) ((Below.refl _ _).grown hg3 (by have := hown.lt; simp; omega) (fun j hj => by cases hj; exact Nat.le_refl _))
         have HO3 := hI_ (And.intro hown3 (And.intro hC4 hB4))
         clear hown hown3 hB hB3 hB4 hC4 hg3 hturn3 hkey
         go_roundw
         case rel => exact ⟨j + 1, _, by omega, by go_num, by rw [HS.out]; go_num, HO3.out.1, HT.out, HO3.out.2.1, HO3.out.2.2⟩
         case measure => simp [intOf]; omega
     · have hjm : j = m := by omega
       subst hjm
       have HT := hI_ (show mostB V I = decide (((k / 2 + 1 : Nat) : Int) ≤ (cntK V I j : Nat)) by unfold mostB; rw [HM.out, HN.out]; exact decide_eq_decide.2 (by omega))
       obtain ⟨c0, c1, _, _⟩ := HC2.out
       have HBW := hI_ hB
       clear hB hown
       go_wp2_with fail
       refine (pNeed_any k c n2 c2 a a2 hl _).mono ?_
       rintro e w5 ⟨rfl, hb5⟩
       have HB5 := hI_ (HBW.out.trans (hb5.mono HBW.out.size))
       clear hb5 c0 c1
       go_wp2_with fail
       go_ret
       exact ⟨by rw [HT.out]; first | rfl | simp, HB5.out⟩

def fr (V I : List Nat) : Nat → List Nat
 | 0 => []
 | k + 1 => if hasN (I.getD k 0) V && !hasN (I.getD k 0) (I.take k) then fr V I k ++ [I.getD k 0] else fr V I k
theorem refNum_1 (v : Int) (w : World) (h0 : 0 ≤ v) (h1 : v < 64) :
 Calls Tryz.prog 101 #[.int .u64 v] w fun e w' => e = .returned (.tuple #[.string ⟨(numB v.toNat).toArray⟩, .int .i64 0]) ∧ Below w.heap.size w w' := by
 have hc := one_byte_at
 go_enter Tryz.func101, Tryz.ntmps101
 go_wp2_with (first | (go_at_call 146; refine (refSize_any _ _ (by omega)).mono ?_; rintro e w' ⟨rfl, rfl⟩; rw [szOf1 h1]))
 refine wp_loop_rounds 2 ?_
 iterate 2 (any_goals (rw [rounds_succ]; go_wp2_with fail))
 go_ret2
 refine ⟨retStr ?_, ?_⟩
 · exact str_1 v h0 h1
 · repeat (first | exact Below.refl _ _ | refine Below.alloc ?_ (by simp <;> omega) _)
theorem refNum_2 (v : Int) (w : World) (h0 : 64 ≤ v) (h1 : v < 16384) :
 Calls Tryz.prog 101 #[.int .u64 v] w fun e w' => e = .returned (.tuple #[.string ⟨(numB v.toNat).toArray⟩, .int .i64 0]) ∧ Below w.heap.size w w' := by
 have hc := one_byte_at
 go_enter Tryz.func101, Tryz.ntmps101
 go_wp2_with (first | (go_at_call 146; refine (refSize_any _ _ (by omega)).mono ?_; rintro e w' ⟨rfl, rfl⟩; rw [szOf2 h0 h1]))
 refine wp_loop_rounds 3 ?_
 iterate 3 (any_goals (rw [rounds_succ]; go_wp2_with fail))
 go_ret2
 refine ⟨retStr ?_, ?_⟩
 · exact str_2 v h0 h1
 · repeat (first | exact Below.refl _ _ | refine Below.alloc ?_ (by simp <;> omega) _)
theorem refNum_4 (v : Int) (w : World) (h0 : 16384 ≤ v) (h1 : v < 1073741824) :
 Calls Tryz.prog 101 #[.int .u64 v] w fun e w' => e = .returned (.tuple #[.string ⟨(numB v.toNat).toArray⟩, .int .i64 0]) ∧ Below w.heap.size w w' := by
 have hc := one_byte_at
 go_enter Tryz.func101, Tryz.ntmps101
 go_wp2_with (first | (go_at_call 146; refine (refSize_any _ _ (by omega)).mono ?_; rintro e w' ⟨rfl, rfl⟩; rw [szOf4 h0 h1]))
 refine wp_loop_rounds 5 ?_
 iterate 5 (any_goals (rw [rounds_succ]; go_wp2_with fail))
 go_ret2
 refine ⟨retStr ?_, ?_⟩
 · exact str_4 v h0 h1
 · repeat (first | exact Below.refl _ _ | refine Below.alloc ?_ (by simp <;> omega) _)
theorem refNum_8 (v : Int) (w : World) (h0 : 1073741824 ≤ v) (h1 : v < 4611686018427387904) :
 Calls Tryz.prog 101 #[.int .u64 v] w fun e w' => e = .returned (.tuple #[.string ⟨(numB v.toNat).toArray⟩, .int .i64 0]) ∧ Below w.heap.size w w' := by
 have hc := one_byte_at
 go_enter Tryz.func101, Tryz.ntmps101
 go_wp2_with (first | (go_at_call 146; refine (refSize_any _ _ (by omega)).mono ?_; rintro e w' ⟨rfl, rfl⟩; rw [szOf8 h0 h1]))
 refine wp_loop_rounds 9 ?_
 iterate 9 (any_goals (rw [rounds_succ]; go_wp2_with fail))
 go_ret2
 refine ⟨retStr ?_, ?_⟩
 · exact str_8 v h0 h1
 · repeat (first | exact Below.refl _ _ | refine Below.alloc ?_ (by simp <;> omega) _)
theorem refNum_any (v : Int) (w : World) (h0 : 0 ≤ v) (h1 : v < 4611686018427387904) :
 Calls Tryz.prog 101 #[.int .u64 v] w fun e w' => e = .returned (.tuple #[.string ⟨(numB v.toNat).toArray⟩, .int .i64 0]) ∧ Below w.heap.size w w' := by
 by_cases a : v < 64
 · exact refNum_1 v w h0 a
 by_cases b : v < 16384
 · exact refNum_2 v w (by omega) b
 by_cases c : v < 1073741824
 · exact refNum_4 v w (by omega) c
 · exact refNum_8 v w (by omega) h1

def Buf (w : World) (B : Nat) (v : Value) (bs : List UInt8) : Prop :=
 ∃ g cap, v = .slice (some ⟨g, 0, none⟩) bs.length cap ∧ B ≤ g ∧ g < w.heap.size ∧ bs.length ≤ cap ∧ (∀ j x, bs[j]? = some x → w.cell? ⟨g, j, none⟩ = some (u8v x)) ∧
  ∀ j, bs.length ≤ j → j < cap → (w.cell? ⟨g, j, none⟩).isSome = true ∧ w.frozen? ⟨g, j, none⟩ = false
theorem Buf.later {w w' : World} {B : Nat} {v : Value} {bs : List UInt8} (h : Buf w B v bs) (hb : Below w.heap.size w w') : Buf w' B v bs := by
 obtain ⟨g, cap, rfl, hB, hg, hc, h1, h2⟩ := h
 exact ⟨g, cap, rfl, hB, Nat.lt_of_lt_of_le hg hb.size, hc, fun j x hx => (hb.cell (p := ⟨g, j, none⟩) hg).trans (h1 j x hx), fun j h3 h4 => by rw [hb.cell (p := ⟨g, j, none⟩) hg, hb.frozen (p := ⟨g, j, none⟩) hg]; exact h2 j h3 h4⟩
theorem below_setCellsB {B : Nat} {a : World} {b : Nat} (hB : B ≤ b) : ∀ (vs : List Value) (o : Nat) (w : World), Below B a w → Below B a (w.setCells b o vs)
 | [], _, _, h => h
 | _ :: r, o, _, h => below_setCellsB hB r (o + 1) _ (h.setCell hB _)
theorem size_setCells (b : Nat) : ∀ (vs : List Value) (o : Nat) (w : World), (w.setCells b o vs).heap.size = w.heap.size
 | [], _, _ => rfl
 | _ :: r, o, w => by rw [World.setCells, size_setCells b r (o + 1), World.size_setCell]
theorem byteCells_u8v (s : ByteArray) : byteCells s = s.data.toList.map u8v := rfl
theorem infoByte : (Tryz.prog.info? 5).map (fun i => (i.zero, i.size, i.bytes)) = some (some (.int .u8 0), 1, 1) := by kernel_rfl
theorem buf_app (ty : TypeId) (w : World) (B : Nat) (hBw : B ≤ w.heap.size) (v : Value) (bs : List UInt8) (s : ByteArray) (h : Buf w B v bs) (hn : bs.length + s.size ≤ 70368744177664) :
 ∃ v' w', (Builtin.append_ #[174, 9] ty #[v, .string s]).run Tryz.prog w = .ok v' w' ∧ Buf w' B v' (bs ++ s.data.toList) ∧ ∀ a, Below B a w → Below B a w' := by
 obtain ⟨i0, hi, hz0, hz1, hz2⟩ := info_parts infoByte
 obtain ⟨g, cap, rfl, hB, hg, hc, h1, h2⟩ := h
 have hl : (byteCells s).length = s.size := byteCells_length s
 have hsl : s.data.toList.length = s.size := by simp
 have hsrc : Src Tryz.prog i0.size 9 (.string s) s.size (byteCells s) w := by rw [hz1]; exact Src.ofString w Tryz.underlying9 s
 by_cases hroom : bs.length + s.size ≤ cap
 · have hr := run_append_room_src (P := Tryz.prog) w 174 9 ty 5 i0 Tryz.underlying174 hi g 0 bs.length cap (.string s) s.size (byteCells s) hsrc hroom
    (fun j hj => by rw [hz1, Nat.mul_one, Nat.zero_add]; exact (h2 _ (by omega) (by omega)).1) (fun j hj => by rw [hz1, Nat.mul_one, Nat.zero_add]; exact (h2 _ (by omega) (by omega)).2)
   rw [hz1, Nat.mul_one, Nat.zero_add] at hr
   refine ⟨_, _, hr, ⟨g, cap, ?_, hB, by rw [size_setCells]; exact hg, ?_, ?_, ?_⟩, fun a ha => below_setCellsB hB _ _ _ ha⟩
   · rw [List.length_append, hsl]
   · rw [List.length_append, hsl]; exact hroom
   · intro j x hx
     by_cases hj : j < bs.length
     · rw [World.cell?_setCells_out _ _ _ _ _ (fun _ _ => .inl hj)]
       rw [List.getElem?_append_left hj] at hx; exact h1 j x hx
     · have hj2 : j - bs.length < s.size := by have := (List.getElem?_eq_some_iff.1 hx).1; rw [List.length_append, hsl] at this; omega
       have hc2 := World.cell?_setCells_in g (byteCells s) bs.length w (fun i hi' => (h2 _ (by omega) (by omega)).1) (j - bs.length) (by omega)
       rw [show bs.length + (j - bs.length) = j by omega] at hc2
       rw [hc2]
       rw [List.getElem?_append_right (by omega)] at hx
       have hx2 : s.data.toList[j - bs.length]'(by omega) = x := by rw [List.getElem?_eq_getElem (by omega)] at hx; exact Option.some.inj hx
       simp only [byteCells_u8v, List.getElem_map, hx2]
   · intro j h3 h4
     rw [List.length_append, hsl] at h3
     rw [World.cell?_setCells_out _ _ _ _ _ (fun _ _ => .inr (by rw [hl]; exact h3)), World.frozen?_setCells]
     exact h2 j (by omega) h4
 · have hold : (Builtin.firstCells i0.size bs.length (.slice (some ⟨g, 0, none⟩) bs.length cap)).run Tryz.prog w.drew = .ok (bs.map u8v).toArray w.drew := by
    refine run_firstCells_some w.drew i0.size bs.length ⟨g, 0, none⟩ bs.length cap (bs.map u8v) (by rw [hz1]; simp) (fun j u hj => ?_)
    rw [addHead]
    rw [List.getElem?_map] at hj
    obtain ⟨x, hx, rfl⟩ := Option.map_eq_some_iff.1 hj
    exact h1 j x hx
   have hr := run_append_grow_src (P := Tryz.prog) w 174 9 ty 5 i0 (.int .u8 0) Tryz.underlying174 hi hz0 (some ⟨g, 0, none⟩) bs.length cap (bs.map u8v) hold (.string s) s.size (byteCells s) hsrc (by omega) (by omega)
    (by rw [hz2]; exact growslice_fits (by omega) (by omega))
   have hge := grownCap_ge w (bs.length + s.size) cap 5
   generalize grownCap w (bs.length + s.size) cap 5 = gc at hr hge
   have hrow : ∀ (j : Nat) (x : UInt8), (bs ++ s.data.toList)[j]? = some x → ((bs.map u8v ++ byteCells s).toArray ++ Builtin.zeroCells (Value.int IntKind.u8 0).cells (gc - (bs.length + s.size)))[j]? = some (u8v x) := by
    intro j x hx
    have hj : j < bs.length + s.size := by have := (List.getElem?_eq_some_iff.1 hx).1; rw [List.length_append, hsl] at this; exact this
    rw [Array.getElem?_append_left (by simp [hl]; omega), List.getElem?_toArray, byteCells_u8v, ← List.map_append, List.getElem?_map, hx]; rfl
   refine ⟨_, _, hr, ⟨w.heap.size, gc, ?_, hBw, by simp, ?_, ?_, ?_⟩, fun a ha => ha.drew.alloc (by simpa using hBw) _⟩
   · rw [List.length_append, hsl]
   · rw [List.length_append, hsl]; exact hge
   · intro j x hx
     have := hrow j x hx
     exact (World.cell?_alloc_at (w := w.drew) _ _ w.heap.size j rfl).trans this
   · intro j h3 h4
     rw [List.length_append, hsl] at h3
     constructor
     · rw [World.cell?_alloc_at (w := w.drew) _ _ w.heap.size j rfl, Array.getElem?_eq_getElem (by simp [size_zeroCells, hl]; show j < bs.length + s.size + (gc - (bs.length + s.size)) * 1; omega)]
       rfl
     · exact World.frozen?_alloc_at (w := w.drew) _ _ w.heap.size j rfl
theorem wpList_buf_app {ops : Array Oper} {rest : List Oper} {o : Oper} {a : Act} {Q : Exit → Act → World → Prop} {w : World} (hgd : o.guard = none) (sl x : Operand)
 (ho : o.op = .call { callee := .builtin .append, args := #[sl, x], argTypes := #[174, 9] })
 (B : Nat) (hBw : B ≤ w.heap.size) (v : Value) (bs : List UInt8) (s : ByteArray) (hs : a.eval sl = v) (hx : a.eval x = .string s) (hb : Buf w B v bs) (hn : bs.length + s.size ≤ 70368744177664)
 (h : ∀ v' w', Buf w' B v' (bs ++ s.data.toList) → (∀ a, Below B a w → Below B a w') → wpList Tryz.prog ops Q rest (a.put o.dst v') w') : wpList Tryz.prog ops Q (o :: rest) a w := by
 refine wpList_plain hgd fun K hK => ?_
 obtain ⟨v', w', hr, h2, h3⟩ := buf_app o.type w B hBw v bs s hb hn
 unfold Oper.wp execOp
 simp only [ho, resolve, invoke, builtin, Sem.run_bind, Sem.run_pure, Result.andThen_ok, List.map_toArray, List.map_cons, List.map_nil, hs, hx, hr]
 exact hK _ _ (h v' w' h2 h3)
theorem buf_conv (w : World) (B : Nat) (hB : B ≤ w.heap.size) (l : List UInt8) : ∃ v W1, (convert 9 174 (.string ⟨l.toArray⟩)).run Tryz.prog w = .ok v W1 ∧ Buf W1 B v l ∧ Below w.heap.size w W1 := by
 have hr := run_bytes_of_string w 9 174 5 ⟨l.toArray⟩ Tryz.underlying9 Tryz.underlying174 Tryz.underlying5
 have hge := grownCap_ge w (ByteArray.mk l.toArray).size 0 5
 generalize grownCap w (ByteArray.mk l.toArray).size 0 5 = gc at hr hge
 have hl : (ByteArray.mk l.toArray).size = l.length := size_arr l
 have hsz : (bytesRow ⟨l.toArray⟩ gc).size = gc := by unfold bytesRow; simp; rw [hl] at hge; omega
 have h2 : (w.drew.alloc (.cells (bytesRow ⟨l.toArray⟩ gc) 5 ((bytesRow ⟨l.toArray⟩ gc).size, (bytesRow ⟨l.toArray⟩ gc).size + 1))).heap[w.heap.size]? = some (.cells (bytesRow ⟨l.toArray⟩ gc) 5 ((bytesRow ⟨l.toArray⟩ gc).size, (bytesRow ⟨l.toArray⟩ gc).size + 1)) := by
  show (w.heap.push _)[w.heap.size]? = _
  simp
 refine ⟨_, _, hr, ⟨w.heap.size, gc, by rw [hl], hB, by simp, by omega, ?_, ?_⟩, (Below.refl _ _).drew.alloc (Nat.le_refl _) _⟩
 · intro j x hj
   simp only [World.cell?, h2]
   have hlt := (List.getElem?_eq_some_iff.1 hj).1
   unfold bytesRow
   rw [Array.getElem?_append_left (by simpa using hlt)]
   simp [hj, u8v]
 · intro j _ h4
   constructor
   · simp only [World.cell?, h2]
     rw [Array.getElem?_eq_getElem (by rw [hsz]; exact h4)]; rfl
   · simp only [World.frozen?, h2]
     simp; omega

theorem buf_string {w : World} {B : Nat} {v : Value} {l : List UInt8} (h : Buf w B v l) : (convert 174 9 v).run Tryz.prog w = .ok (.string ⟨l.toArray⟩) w := by
 obtain ⟨g, cap, rfl, _, _, _, h1, _⟩ := h
 exact run_convert_bytes_back (P := Tryz.prog) w 174 9 5 ⟨g, 0, none⟩ cap l Tryz.underlying174 Tryz.underlying5 Tryz.underlying9 (fun i hi => by
  rw [addHead]; exact h1 i _ (List.getElem?_eq_getElem hi))
theorem refNums_any (n cap : Nat) (a : Option Addr) (L : List Nat) (hn : L.length = n) (hl : n ≤ 1048576) (hv : ∀ v ∈ L, v < 4611686018427387904) (w : World) (hU : Us w a L) :
 Calls Tryz.prog 90 #[.slice a n cap] w fun e w' => e = .returned (.tuple #[.string ⟨(numsB L).toArray⟩, .int .i64 0]) ∧ Below w.heap.size w w' := by
 have hle : ∀ k, k ≤ n → (preB L k).length ≤ 8 + 8 * k := fun k hk => preB_le L hv (by omega) k (by omega)
 have HLE := hI_ hle; clear hle
 have HV := hI_ hv; clear hv
 have HN := hI_ hn; clear hn
 have hp0 : preB L 0 = numB n := by unfold preB; rw [HN.out]; simp
 have HP0 := hI_ hp0; clear hp0
 go_enter Tryz.func90, Tryz.ntmps90
 go_wp2_with fail
 refine (refNum_any _ _ (by omega) (by omega)).mono ?_
 rintro e w1 ⟨rfl, hb1⟩
 rw [Int.toNat_natCast]
 obtain ⟨v, w2, hcv, hbuf, hb2⟩ := buf_conv w1 w.heap.size hb1.size (numB n)
 have B2 := hb1.trans (hb2.mono hb1.size)
 rw [← HP0.out] at hbuf
 clear hb1 hb2
 go_wp2_with fail
 clear hcv
 go_loopw [6, 7] (fun b i wr => ∃ k : Nat, k ≤ n ∧ i = .int .i64 k ∧ Buf wr w.heap.size b (preB L k) ∧ Below w.heap.size w wr) (fun _ i _ => n - (intOf i).toNat)
 case atStart => exact ⟨0, Nat.zero_le _, rfl, hbuf, B2⟩
 case round =>
  clear hbuf B2
  obtain ⟨k, hk, rfl, hbuf, B⟩ := hrel
  by_cases hlt : k < n
  · have hkl : k < L.length := by have := HN.out; omega
    obtain ⟨bk, off, rfl, hbk, hc⟩ := (hU.later B) k _ (List.getElem?_eq_getElem hkl)
    obtain ⟨x, hvk⟩ : ∃ x, L[k] = x := ⟨_, rfl⟩
    rw [hvk] at hc
    have hvb : x < 4611686018427387904 := by rw [← hvk]; exact HV.out _ (List.getElem_mem _)
    have hvp := numB_pos x hvb
    have hpk := HLE.out k hk
    have hps : preB L (k + 1) = preB L k ++ numB x := by rw [preB_succ L k hkl, hvk]
    have HPS := hI_ hps; clear hps
    have HVK := hI_ hvk; clear hvk
    go_wp2_with fail
    refine (refNum_any _ _ (by omega) (by omega)).mono ?_
    rintro e w3 ⟨rfl, hb3⟩
    rw [Int.toNat_natCast]
    have hbuf3 := hbuf.later hb3
    have B3 := B.trans (hb3.mono B.size)
    clear hbuf hb3 B hc
    go_wp2_with (at_builtin; refine wpList_buf_app rfl _ _ rfl w.heap.size B3.size _ (preB L k) ⟨(numB x).toArray⟩ rfl rfl hbuf3 ?c1 ?_)
    case c1 => rw [size_arr]; omega
    intro v' w4 hbuf4 hB4
    have B4 := hB4 _ B3
    have HB4 := hI_ hbuf4
    clear hB4 hbuf4 hbuf3
    go_wp2_with fail
    go_roundw
    case rel => exact ⟨k + 1, by omega, by go_num, by rw [HPS.out]; exact HB4.out, B4⟩
    case measure => simp [intOf]; omega
  · obtain rfl : k = n := by omega
    have hall : preB L k = numsB L := by rw [← HN.out]; exact preB_all L
    rw [hall] at hbuf
    have hstr := buf_string hbuf
    clear hall hbuf
    go_wp2_with fail
    go_ret2
    exact ⟨rfl, B⟩

def NxP (w : World) (V L : List Nat) (k : Int) (e : Ending) (w' : World) : Prop := ∃ a c a2 c2, e = .returned (.tuple #[.agg #[.slice a V.length c, .slice a2 L.length c2], .int .i64 k]) ∧ Us w' a V ∧ Us w' a2 L ∧ (0 < V.length → ∀ q, a = some q → w.heap.size ≤ q.block) ∧ (0 < L.length → ∀ q, a2 = some q → w.heap.size ≤ q.block) ∧ Below w.heap.size w w'
def NxF (w : World) (r : (List Nat × List Nat) × Int) (e : Ending) (w' : World) : Prop := NxP w r.1.1 r.1.2 r.2 e w'
theorem nx_no {w w' : World} {r : (List Nat × List Nat) × Int} {k : Int} (h : r = (([], []), k)) (hb : Below w.heap.size w w') : NxF w r (.returned (.tuple #[.agg #[.slice none 0 0, .slice none 0 0], .int .i64 k])) w' := by
 subst h; exact ⟨none, 0, none, 0, rfl, Us.nil _ _, Us.nil _ _, fun h => absurd h (Nat.not_lt_zero _), fun h => absurd h (Nat.not_lt_zero _), hb⟩
theorem nx_yes {w w' : World} {r : (List Nat × List Nat) × Int} {V L : List Nat} {a a2 : Option Addr} {n c n2 c2 : Nat} (h : r = ((V, L), 0)) (hn : V.length = n) (hn2 : L.length = n2) (h1 : Us w' a V) (h2 : Us w' a2 L) (h3 : 0 < V.length → ∀ q, a = some q → w.heap.size ≤ q.block) (h4 : 0 < L.length → ∀ q, a2 = some q → w.heap.size ≤ q.block) (hb : Below w.heap.size w w') : NxF w r (.returned (.tuple #[.agg #[.slice a n c, .slice a2 n2 c2], .int .i64 0])) w' := by
 subst h hn hn2; exact ⟨a, c, a2, c2, rfl, h1, h2, h3, h4, hb⟩
theorem risesF_iff {L : List Nat} : ∀ {p : Nat}, risesF p L = true ↔ (∀ x ∈ L, p < x ∧ x ≤ 63) ∧ L.Pairwise (· < ·) := by
 induction L with
 | nil => intro p; simp [risesF]
 | cons x r ih =>
  intro p
  simp only [risesF, Bool.and_eq_true, decide_eq_true_eq, ih (p := x), List.pairwise_cons, List.mem_cons]
  constructor
  · rintro ⟨⟨h1, h2⟩, h3, h4⟩
    refine ⟨?_, fun y hy => (h3 y hy).1, h4⟩
    rintro y (rfl | hy)
    · exact ⟨h1, h2⟩
    · have := h3 y hy; exact ⟨by omega, this.2⟩
  · rintro ⟨h1, h2, h3⟩
    exact ⟨h1 x (.inl rfl), fun y hy => ⟨h2 y hy, (h1 y (.inr hy)).2⟩, h3⟩
theorem bothN_iff {V L : List Nat} : bothN V L = true ↔ ∃ x ∈ L, x ∈ V := by
 induction L with
 | nil => simp [bothN]
 | cons y r ih => simp only [bothN, Bool.or_eq_true, ih, hasN_iff, List.mem_cons, exists_eq_or_imp]
theorem mayB_iff {V L : List Nat} : mayB V L = true ↔ (0 < V.length ∧ V.length ≤ 7 ∧ L.length ≤ 3) ∧ (∀ x ∈ V, 0 < x ∧ x ≤ 63) ∧ V.Pairwise (· < ·) ∧ (∀ x ∈ L, 0 < x ∧ x ≤ 63) ∧ L.Pairwise (· < ·) ∧ ∀ x ∈ L, x ∉ V := by
 unfold mayB membB
 simp only [Bool.and_eq_true, decide_eq_true_eq, risesF_iff, Bool.not_eq_true']
 constructor
 · rintro ⟨⟨⟨h1, h2, h3, h4⟩, h5, h6, h7⟩, h8⟩
   refine ⟨⟨h1, h2, h5⟩, h3, h4, h6, h7, fun x hx hv => ?_⟩
   have := bothN_iff.2 ⟨x, hx, hv⟩
   rw [h8] at this; cases this
 · rintro ⟨⟨h1, h2, h5⟩, h3, h4, h6, h7, h8⟩
   refine ⟨⟨⟨h1, h2, h3, h4⟩, h5, h6, h7⟩, ?_⟩
   cases hb : bothN V L with
   | false => rfl
   | true => obtain ⟨x, hx, hv⟩ := bothN_iff.1 hb; exact absurd hv (h8 x hx)

def byG (V L : List Nat) : List UInt8 := if mayB V L then numsB V ++ numsB L else []
def erG (V L : List Nat) : Nat := if mayB V L then 0 else 1
theorem mk_app (A B : List UInt8) : (⟨A.toArray⟩ : ByteArray) ++ ⟨B.toArray⟩ = ⟨(A ++ B).toArray⟩ := by
 apply ByteArray.ext; simp [ByteArray.data_append]
theorem nums_room {V L : List Nat} (h : (V.length ≤ 7 ∧ L.length ≤ 3) ∧ (∀ x ∈ V, x < 4611686018427387904) ∧ ∀ x ∈ L, x < 4611686018427387904) : (numsB V).length + (numsB L).length ≤ 96 := by
 have h1 := preB_le V h.2.1 (by have := h.1.1; omega) V.length (Nat.le_refl _)
 have h2 := preB_le L h.2.2 (by have := h.1.2; omega) L.length (Nat.le_refl _)
 rw [preB_all] at h1 h2
 have := h.1
 omega
theorem may_small {V L : List Nat} (h : mayB V L = true) : (V.length ≤ 7 ∧ L.length ≤ 3) ∧ (∀ x ∈ V, x < 4611686018427387904) ∧ ∀ x ∈ L, x < 4611686018427387904 := by
 obtain ⟨⟨_, h1, h2⟩, h3, _, h4, _⟩ := mayB_iff.1 h
 exact ⟨⟨h1, h2⟩, fun x hx => by have := (h3 x hx).2; omega, fun x hx => by have := (h4 x hx).2; omega⟩
theorem pBytes_any (n c n2 c2 : Nat) (a a2 : Option Addr) (V L : List Nat) (hn : V.length = n) (hl : n ≤ 140737488351232) (hn2 : L.length = n2) (hl2 : n2 ≤ 140737488351232) (w : World) (hV : Us w a V) (hU : Us w a2 L) (hT : Tz w) :
 Calls Tryz.prog 27 #[.agg #[.slice a n c, .slice a2 n2 c2]] w fun e w' => e = .returned (.tuple #[.string ⟨(byG V L).toArray⟩, .int .i64 (erG V L : Nat)]) ∧ Below w.heap.size w w' := by
 have B0 : Below w.heap.size w (w.alloc (.cells #[.slice a n c, .slice a2 n2 c2] 25)) := (Below.refl _ _).alloc (Nat.le_refl _) _
 have C0 := Cb.new (w := w) rfl (.slice a n c) (.slice a2 n2 c2) 25
 have HTN := hI_ hT.n
 have HV := hI_ (hV.later B0)
 have HU := hI_ (hU.later B0)
 have HT := hI_ (hT.below (B0.mono hT.n))
 have HB := hI_ B0
 have HC := hI_ C0
 have HN := hI_ hn
 have HN2 := hI_ hn2
 obtain ⟨mb, hmb⟩ : ∃ mb, mayB V L = mb := ⟨_, rfl⟩
 have HMB := hI_ hmb
 clear hn hn2 hV hU hT B0 C0 hmb
 go_enter Tryz.func27, Tryz.ntmps27
 go_wp2_with fail
 refine (pMay_any n c n2 c2 a a2 V L HN.out hl HN2.out hl2 _ HV.out HU.out).mono ?_
 rintro e w2 ⟨rfl, hb2⟩
 rw [HMB.out]
 have HV2 := hI_ (HV.out.later hb2)
 have HU2 := hI_ (HU.out.later hb2)
 have HC2 := hI_ (HC.out.later hb2)
 have HB2 := hI_ (HB.out.trans (hb2.mono HB.out.size))
 have HT2 := hI_ (HT.out.below (hb2.mono HT.out.n))
 clear hb2 HV HU HC HB HT
 obtain ⟨c0, c1, _, _⟩ := HC2.out
 cases mb
 · go_wp2_with fail
   go_ret2
   exact ⟨by unfold byG erG; rw [HMB.out]; first | rfl | simp, HB2.out⟩
 · have HS := hI_ (may_small HMB.out)
   go_wp2_with fail
   refine (nums_any n c a V HN.out (by have := HS.out.1.1; have := HN.out; omega) HS.out.2.1 _ HV2.out HT2.out).mono ?_
   rintro e w3 ⟨rfl, hb3⟩
   have HU3 := hI_ (HU2.out.later hb3)
   have HC3 := hI_ (HC2.out.later hb3)
   have HB3 := hI_ (HB2.out.trans (hb3.mono HB2.out.size))
   have HT3 := hI_ (HT2.out.below (hb3.mono HT2.out.n))
   clear hb3 c0 c1
   obtain ⟨c0, c1, _, _⟩ := HC3.out
   go_wp2_with fail
   refine (nums_any n2 c2 a2 L HN2.out (by have := HS.out.1.2; have := HN2.out; omega) HS.out.2.2 _ HU3.out HT3.out).mono ?_
   rintro e w4 ⟨rfl, hb4⟩
   have HB4 := hI_ (HB3.out.trans (hb4.mono HB3.out.size))
   clear hb4
   have hroom : ¬ 9223372036854775807 < (numsB V).length + (numsB L).length := by have := nums_room HS.out; omega
   go_wp2_with fail
   go_ret2
   exact ⟨by rw [show byG V L = numsB V ++ numsB L by unfold byG; rw [HMB.out]; rfl, show erG V L = 0 by unfold erG; rw [HMB.out]; rfl, ← mk_app]; rfl, HB4.out⟩
theorem rBytes_any (n c n2 c2 : Nat) (a a2 : Option Addr) (V L : List Nat) (hn : V.length = n) (hl : n ≤ 140737488351232) (hn2 : L.length = n2) (hl2 : n2 ≤ 140737488351232) (w : World) (hV : Us w a V) (hU : Us w a2 L) :
 Calls Tryz.prog 35 #[.agg #[.slice a n c, .slice a2 n2 c2]] w fun e w' => e = .returned (.tuple #[.string ⟨(byG V L).toArray⟩, .int .i64 (erG V L : Nat)]) ∧ Below w.heap.size w w' := by
 have B0 : Below w.heap.size w (w.alloc (.cells #[.slice a n c, .slice a2 n2 c2] 25)) := (Below.refl _ _).alloc (Nat.le_refl _) _
 have C0 := Cb.new (w := w) rfl (.slice a n c) (.slice a2 n2 c2) 25
 have HV := hI_ (hV.later B0)
 have HU := hI_ (hU.later B0)
 have HB := hI_ B0
 have HC := hI_ C0
 have HN := hI_ hn
 have HN2 := hI_ hn2
 obtain ⟨mb, hmb⟩ : ∃ mb, mayB V L = mb := ⟨_, rfl⟩
 have HMB := hI_ hmb
 clear hn hn2 hV hU B0 C0 hmb
 go_enter Tryz.func35, Tryz.ntmps35
 go_wp2_with fail
 refine (rMay_any n c n2 c2 a a2 V L HN.out hl HN2.out hl2 _ HV.out HU.out).mono ?_
 rintro e w2 ⟨rfl, hb2⟩
 rw [HMB.out]
 have HV2 := hI_ (HV.out.later hb2)
 have HU2 := hI_ (HU.out.later hb2)
 have HC2 := hI_ (HC.out.later hb2)
 have HB2 := hI_ (HB.out.trans (hb2.mono HB.out.size))
 clear hb2 HV HU HC HB
 obtain ⟨c0, c1, _, _⟩ := HC2.out
 cases mb
 · go_wp2_with fail
   go_ret2
   exact ⟨by unfold byG erG; rw [HMB.out]; first | rfl | simp, HB2.out⟩
 · have HS := hI_ (may_small HMB.out)
   go_wp2_with fail
   refine (refNums_any n c a V HN.out (by have := HS.out.1.1; have := HN.out; omega) HS.out.2.1 _ HV2.out).mono ?_
   rintro e w3 ⟨rfl, hb3⟩
   have HU3 := hI_ (HU2.out.later hb3)
   have HC3 := hI_ (HC2.out.later hb3)
   have HB3 := hI_ (HB2.out.trans (hb3.mono HB2.out.size))
   clear hb3 c0 c1
   obtain ⟨c0, c1, _, _⟩ := HC3.out
   go_wp2_with fail
   refine (refNums_any n2 c2 a2 L HN2.out (by have := HS.out.1.2; have := HN2.out; omega) HS.out.2.2 _ HU3.out).mono ?_
   rintro e w4 ⟨rfl, hb4⟩
   have HB4 := hI_ (HB3.out.trans (hb4.mono HB3.out.size))
   clear hb4
   have hroom : ¬ 9223372036854775807 < (numsB V).length + (numsB L).length := by have := nums_room HS.out; omega
   go_wp2_with fail
   go_ret2
   exact ⟨by rw [show byG V L = numsB V ++ numsB L by unfold byG; rw [HMB.out]; rfl, show erG V L = 0 by unfold erG; rw [HMB.out]; rfl, ← mk_app]; rfl, HB4.out⟩
end Go.Proofs.YtdcpiaoadbbdoaaGreatDoor
