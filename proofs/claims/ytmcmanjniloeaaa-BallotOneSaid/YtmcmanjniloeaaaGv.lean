/- Majorities: the program's Most. -/
import Derived.Test.YtmcmanjniloeaaaGd
import Derived.Maps.OwnSet
namespace Go.Proofs.Ytmcmanjniloeaaa
open Go.RowKit Go.Maps

/-- How many of the first k of I are in V, each counted once. -/
def cntK (V I : List Nat) : Nat → Nat
  | 0 => 0
  | k + 1 => cntK V I k + if hasN (I.getD k 0) V && !hasN (I.getD k 0) (I.take k) then 1 else 0
theorem cntK_le (V I : List Nat) : ∀ k, cntK V I k ≤ k
  | 0 => Nat.le_refl _
  | k + 1 => by have := cntK_le V I k; simp only [cntK]; split <;> omega
def mostB (V I : List Nat) : Bool := decide (V.length / 2 + 1 ≤ cntK V I I.length)
theorem hasN_app (x : Nat) (A B : List Nat) : hasN x (A ++ B) = (hasN x A || hasN x B) := by
  induction A with
  | nil => rfl
  | cons y r ih => simp only [List.cons_append, hasN, ih, Bool.or_assoc]
theorem hasN_take_succ {k x y : Nat} {V : List Nat} (h : V[k]? = some y) : hasN x (V.take (k + 1)) = (hasN x (V.take k) || decide (y = x)) := by
  rw [List.take_add_one, h, hasN_app]; simp [hasN]
theorem keyed64 : Keyed Try.prog 22 := int_keyed Try.underlying22
theorem zeroUnit (w : World) : (zeroValue 61).run Try.prog w = .ok (.agg #[]) w := by kernel_rfl
theorem key64 (x : Nat) (h : x < 18446744073709551616) : keyOf Try.prog 22 (.int .u64 (x : Nat)) = some (.int .u64 (x : Nat)) := by
  refine keyOf_int_mk Try.underlying22 ?_
  simp [Lit.wf, IntKind.min, IntKind.max, IntKind.signed, IntKind.bits]; omega
theorem lit64_ne {x y : Nat} (h : x ≠ y) : (Lit.int .u64 (x : Int)) ≠ .int .u64 (y : Int) := by
  intro e; injection e with _ e; exact h (by omega)
theorem lit64_key (x : Nat) : WideAt.IsKeyLit (.int .u64 (x : Int)) := trivial
set_option maxRecDepth 100000 in
set_option maxHeartbeats 4000000 in
theorem pMost_any (n c n2 c2 m d : Nat) (a a2 a3 : Option Addr) (V I : List Nat) (hn : V.length = n) (hl : n ≤ 140737488351232) (hm : I.length = m) (hl2 : m ≤ 140737488351232) (hb1 : ∀ x ∈ V, x < 18446744073709551616) (hb2 : ∀ x ∈ I, x < 18446744073709551616) (w : World) (hV : Us w a V) (hI : Us w a3 I) :
    Calls Try.prog 27 #[.agg #[.slice a n c, .slice a2 n2 c2], .slice a3 m d] w fun e w' => e = .returned (.bool (mostB V I)) ∧ Below w.heap.size w w' := by
  have hmm := @run_makeMap Try.prog
  have B0 : Below w.heap.size w (w.alloc (.cells #[.slice a n c, .slice a2 n2 c2] 41)) := (Below.refl _ _).alloc (Nat.le_refl _) _
  have C0 := Cb.new (w := w) rfl (.slice a n c) (.slice a2 n2 c2) 41
  have HB0 := Lib.hid B0
  have HV := Lib.hid hV
  have HI := Lib.hid hI
  have HN := Lib.hid hn
  have HM := Lib.hid hm
  have HB1 := Lib.hid hb1
  have HB2 := Lib.hid hb2
  clear hV hI hn hm hb1 hb2 B0
  go_enter Try.func27, Try.ntmps27
  go_wp2_with fail
  have es : (w.alloc (.cells #[.slice a n c, .slice a2 n2 c2] 41)).heap.size = w.heap.size + 1 := by simp
  have HM0 := Lib.hid (show (((w.alloc (.cells #[.slice a n c, .slice a2 n2 c2] 41)).alloc (.map #[] 0)).ownsMap Try.prog 22 (unitElem (H := Unit)) (w.heap.size + 1) 0 (.map [])) from by
    have h := World.ownsMap_made (H := Unit) (w.alloc (.cells #[.slice a n c, .slice a2 n2 c2] 41)) Try.prog 22 unitElem
    rw [es] at h; exact h)
  have HK0 := Lib.hid (C0.past (.map #[] 0))
  have HA := Lib.hid ((Below.refl w.heap.size w).alloc (Nat.le_refl _) (.cells #[.slice a n c, .slice a2 n2 c2] 41) |>.alloc (by simp) (.map #[] 0))
  clear C0 es hmm
  generalize (w.alloc (.cells #[.slice a n c, .slice a2 n2 c2] 41)).alloc (.map #[] 0) = W0 at *
  go_loopw [17] (fun i wr => ∃ (k : Nat) (D : DataW Unit), k ≤ n ∧ i = .int .i64 k ∧ wr.ownsMap Try.prog 22 (unitElem (H := Unit)) (w.heap.size + 1) k D ∧ (∀ x : Nat, Maps.has D (.int .u64 (x : Int)) = hasN x (V.take k)) ∧ Cb wr w.heap.size (.slice a n c) (.slice a2 n2 c2) ∧ Below w.heap.size w wr) (fun i _ => n - (intOf i).toNat)
  case atStart => exact ⟨0, _, Nat.zero_le _, rfl, HM0.out, fun x => rfl, HK0.out, HA.out⟩
  case round =>
    obtain ⟨k, D, hk, rfl, hown, hD, hC, hB⟩ := hrel
    have HD := Lib.hid hD
    have HC := Lib.hid hC
    clear hD hC
    by_cases hlt : k < n
    · obtain ⟨x, hx⟩ : ∃ x, V[k]? = some x := ⟨_, List.getElem?_eq_getElem (by rw [HN.out]; exact hlt)⟩
      have i0 : (0 : Int) ≤ (k : Int) := by omega
      have i1 : (k : Int) < (n : Int) := by omega
      have hkey := key64 x (HB1.out x (List.mem_of_getElem? hx))
      obtain ⟨b, off, rfl, hb, p0⟩ := HV.out.later hB k x hx
      have HT := Lib.hid (show ∀ y : Nat, Maps.has (D.put (.int .u64 (x : Int)) (.agg [])) (.int .u64 (y : Int)) = hasN y (V.take (k + 1)) from fun y => by
        rw [hasN_take_succ hx]
        by_cases h : x = y
        · subst h; rw [has_put_same hown.isMap (lit64_key x)]; simp
        · rw [has_put_other (lit64_ne (Ne.symm h)), HD.out y]; simp [h])
      clear hx
      go_wp2_with (first
        | (at_mapUpdate; refine wpList_mapUpdate_own _ rfl _ _ _ 66 rfl 22 61 keyed64 Try.underlying66 (unitElem (H := Unit)) (w.heap.size + 1) k _ rfl hown (by unfold maxLen; omega) _ _ _ rfl rfl hkey _ [] unitElem_mk ?_; intro w1 hown1 hgrow1)
        | go_in)
      have hB1 : Below w.heap.size w w1 := hB.grown hgrow1 hB.size (fun j hj => by cases hj; omega)
      have hC1 := HC.out.under (B := w.heap.size + 1) (Nat.lt_succ_self _) ((Below.refl _ wr).grown hgrow1 (by have := hown.lt; omega) (fun j hj => by cases hj; exact Nat.le_refl _))
      have HO := Lib.hid hown1
      have HBC := Lib.hid (And.intro hC1 hB1)
      clear hown hown1 hB hB1 hC1 hgrow1 hkey
      go_roundw
      case rel => exact ⟨k + 1, _, by omega, by go_num, HO.out, HT.out, HBC.out.1, HBC.out.2⟩
      case measure => simp [intOf]; omega
    · have hkn : k = n := by omega
      subst hkn
      have HD1 := Lib.hid (show ∀ x : Nat, Maps.has D (.int .u64 (x : Int)) = hasN x V from fun x => by rw [HD.out x, List.take_of_length_le (by rw [HN.out]; exact Nat.le_refl _)])
      have HO := Lib.hid hown
      have HBW := Lib.hid hB
      clear hown hB hlt
      go_wp2_with fail
      go_loopw [8, 27] (fun cv i w2 => ∃ (j : Nat) (D : DataW Unit), j ≤ m ∧ i = .int .i64 j ∧ cv = .int .i64 (cntK V I j : Nat) ∧ w2.ownsMap Try.prog 22 (unitElem (H := Unit)) (w.heap.size + 1) k D ∧ (∀ x : Nat, Maps.has D (.int .u64 (x : Int)) = (hasN x V && !hasN x (I.take j))) ∧ Cb w2 w.heap.size (.slice a k c) (.slice a2 n2 c2) ∧ Below w.heap.size w w2) (fun _ i _ => m - (intOf i).toNat)
      case atStart => exact ⟨0, D, Nat.zero_le _, rfl, rfl, HO.out, fun x => by rw [HD1.out x]; simp [hasN], HC.out, HBW.out⟩
      case round =>
        obtain ⟨j, D2, hj, rfl, rfl, hown, hD, hC, hB⟩ := hrel
        have HD := Lib.hid hD
        have HC2 := Lib.hid hC
        clear hD hC
        by_cases hlt : j < m
        · obtain ⟨x, hx⟩ : ∃ x, I[j]? = some x := ⟨_, List.getElem?_eq_getElem (by rw [HM.out]; exact hlt)⟩
          have i0 : (0 : Int) ≤ (j : Int) := by omega
          have i1 : (j : Int) < (m : Int) := by omega
          have hcl := cntK_le V I j
          have hkey := key64 x (HB2.out x (List.mem_of_getElem? hx))
          obtain ⟨b, off, rfl, hb, p0⟩ := HI.out.later hB j x hx
          have hs : cntK V I (j + 1) = cntK V I j + if hasN x V && !hasN x (I.take j) then 1 else 0 := by simp only [cntK]; rw [show I.getD j 0 = x by simp [List.getD, hx]]
          have HX := Lib.hid hx
          clear hx
          obtain ⟨h, hh⟩ : ∃ h, Maps.has D2 (.int .u64 (x : Int)) = h := ⟨_, rfl⟩
          have hh2 := hh
          rw [HD.out x] at hh2
          rw [hh2] at hs
          have HS := Lib.hid hs
          have HH := Lib.hid hh
          clear hh hh2 hs
          cases h
          · have HT := Lib.hid (show ∀ y : Nat, Maps.has D2 (.int .u64 (y : Int)) = (hasN y V && !hasN y (I.take (j + 1))) from fun y => by
              rw [hasN_take_succ HX.out, HD.out y]
              by_cases h : x = y
              · subst h
                have h2 := HH.out
                rw [HD.out x] at h2
                rw [h2]; simp at h2 ⊢
              · simp [h])
            go_wp2_with (first
              | (at_lookup; refine wpList_lookup_own_unit _ rfl _ _ 66 rfl 22 61 keyed64 Try.underlying66 (zeroUnit _) (w.heap.size + 1) k _ rfl hown _ _ rfl hkey ?_; rw [HH.out])
              | go_in)
            have HO2 := Lib.hid (And.intro (hown.alloc (.cells #[] 61)) (And.intro (HC2.out.past (.cells #[] 61)) (hB.alloc hB.size (.cells #[] 61))))
            clear hown hB hkey
            go_roundw
            case rel => exact ⟨j + 1, D2, by omega, by go_num, by rw [HS.out]; rfl, HO2.out.1, HT.out, HO2.out.2.1, HO2.out.2.2⟩
            case measure => simp [intOf]; omega
          · have HT := Lib.hid (show ∀ y : Nat, Maps.has (D2.del (.int .u64 (x : Int))) (.int .u64 (y : Int)) = (hasN y V && !hasN y (I.take (j + 1))) from fun y => by
              rw [hasN_take_succ HX.out]
              by_cases h : x = y
              · subst h
                rw [has_del_same]; simp
              · rw [has_del_other (lit64_ne (Ne.symm h)), HD.out y]; simp [h])
            go_wp2_with (first
              | (at_lookup; refine wpList_lookup_own_unit _ rfl _ _ 66 rfl 22 61 keyed64 Try.underlying66 (zeroUnit _) (w.heap.size + 1) k _ rfl hown _ _ rfl hkey ?_; rw [HH.out])
              | (at_delete; refine wpList_delete_own _ rfl _ _ 66 22 rfl 61 keyed64 Try.underlying66 _ (w.heap.size + 1) k _ rfl (hown.alloc _) _ _ rfl hkey ?_; intro w3 hown3 hturn3)
              | go_in)
            have hB3 := hB.alloc hB.size (.cells #[] 61)
            have hg3 := hturn3.grown
            have hB4 : Below w.heap.size w w3 := hB3.grown hg3 hB3.size (fun j hj => by cases hj; omega)
            have hC4 := (HC2.out.past (.cells #[] 61)).under (B := w.heap.size + 1) (Nat.lt_succ_self _) ((Below.refl _ _).grown hg3 (by have := hown.lt; simp; omega) (fun j hj => by cases hj; exact Nat.le_refl _))
            have HO3 := Lib.hid (And.intro hown3 (And.intro hC4 hB4))
            clear hown hown3 hB hB3 hB4 hC4 hg3 hturn3 hkey
            go_roundw
            case rel => exact ⟨j + 1, _, by omega, by go_num, by rw [HS.out]; go_num, HO3.out.1, HT.out, HO3.out.2.1, HO3.out.2.2⟩
            case measure => simp [intOf]; omega
        · have hjm : j = m := by omega
          subst hjm
          have HT := Lib.hid (show mostB V I = decide (((k / 2 + 1 : Nat) : Int) ≤ (cntK V I j : Nat)) by unfold mostB; rw [HM.out, HN.out]; exact decide_eq_decide.2 (by omega))
          obtain ⟨c0, c1, _, _⟩ := HC2.out
          have HBW := Lib.hid hB
          clear hB hown
          go_wp2_with fail
          refine (pNeed_any k c n2 c2 a a2 hl _).mono ?_
          rintro e w5 ⟨rfl, hb5⟩
          have HB5 := Lib.hid (HBW.out.trans (hb5.mono HBW.out.size))
          clear hb5 c0 c1
          go_wp2_with fail
          go_ret
          exact ⟨by rw [HT.out]; first | rfl | simp, HB5.out⟩
end Go.Proofs.Ytmcmanjniloeaaa
