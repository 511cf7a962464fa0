/- Which configurations may be: the program's parts, and the document's. -/
import Derived.Test.YtoabpakichjieaaGa
namespace Go.Proofs.Ytoabpakichjieaa
open Go.RowKit

set_option maxHeartbeats 1000000 in
theorem rHas_any (v n c : Nat) (a : Option Addr) (L : List Nat) (hn : L.length = n) (hl : n ≤ 140737488351232) (w : World) (hU : Us w a L) :
    Calls Try.prog 33 #[.slice a n c, .int .u64 v] w fun e w' => e = .returned (.bool (hasN v L)) ∧ w = w' := by
  have HN := Lib.hid hn
  have HU := Lib.hid hU
  clear hn hU
  go_enter Try.func33, Try.ntmps33
  go_wp2_with fail
  go_loop [5] (fun u => ∃ k : Nat, k ≤ n ∧ u = .int .i64 k ∧ hasN v L = hasN v (L.drop k)) (fun u => n - (intOf u).toNat)
  case atStart => exact ⟨0, Nat.zero_le _, rfl, rfl⟩
  case round =>
    obtain ⟨k, hk, rfl, hf⟩ := hrel
    have HFB := Lib.hid hf
    clear hf
    by_cases hlt : k < n
    · obtain ⟨x, hx⟩ : ∃ x, L[k]? = some x := ⟨_, List.getElem?_eq_getElem (by rw [HN.out]; exact hlt)⟩
      have i0 : (0 : Int) ≤ (k : Int) := by omega
      have i1 : (k : Int) < (n : Int) := by omega
      obtain ⟨b, off, rfl, hb, p0⟩ := HU.out k x hx
      have HFA := Lib.hid (HFB.out.trans (hasN_at (v := v) hx))
      clear hx
      by_cases he : x = v
      · subst he
        have HT := Lib.hid (show hasN x L = true by rw [HFA.out]; simp)
        go_wp2_with fail
        go_ret
        exact ⟨by rw [HT.out]; first | rfl | simp, rfl⟩
      · have g : ((x : Int) == (v : Int)) = false := by simp; omega
        have HT := Lib.hid (show hasN v L = hasN v (L.drop (k + 1)) by rw [HFA.out, decide_eq_false he]; rfl)
        go_wp2_with fail
        go_round
        case rel => exact ⟨k + 1, by omega, by go_num, HT.out⟩
        case measure => simp [intOf]; omega
    · have HT := Lib.hid (show hasN v L = false by rw [HFB.out, List.drop_eq_nil_of_le (by rw [HN.out]; omega)]; rfl)
      go_wp2_with fail
      go_ret
      exact ⟨by rw [HT.out]; first | rfl | simp, rfl⟩
set_option maxHeartbeats 1000000 in
theorem pIndex_any (v n c : Nat) (a : Option Addr) (L : List Nat) (hn : L.length = n) (hl : n ≤ 140737488351232) (w : World) (hU : Us w a L) :
    Calls Try.prog 57 #[.slice a n c, .int .u64 v] w fun e w' => (∃ k : Int, e = .returned (.int .i64 k) ∧ (0 ≤ k ↔ hasN v L = true)) ∧ w = w' := by
  have HN := Lib.hid hn
  have HU := Lib.hid hU
  clear hn hU
  go_enter Try.func57, Try.ntmps57
  go_wp2_with fail
  go_loop [8] (fun u => ∃ k : Nat, k ≤ n ∧ u = .int .i64 k ∧ hasN v L = hasN v (L.drop k)) (fun u => n - (intOf u).toNat)
  case atStart => exact ⟨0, Nat.zero_le _, rfl, rfl⟩
  case round =>
    obtain ⟨k, hk, rfl, hf⟩ := hrel
    have HFB := Lib.hid hf
    clear hf
    by_cases hlt : k < n
    · obtain ⟨x, hx⟩ : ∃ x, L[k]? = some x := ⟨_, List.getElem?_eq_getElem (by rw [HN.out]; exact hlt)⟩
      have i0 : (0 : Int) ≤ (k : Int) := by omega
      have i1 : (k : Int) < (n : Int) := by omega
      obtain ⟨b, off, rfl, hb, p0⟩ := HU.out k x hx
      have HFA := Lib.hid (HFB.out.trans (hasN_at (v := v) hx))
      clear hx
      by_cases he : x = v
      · subst he
        have HT := Lib.hid (show hasN x L = true by rw [HFA.out]; simp)
        go_wp2_with fail
        go_ret
        exact ⟨⟨k, rfl, ⟨fun _ => HT.out, fun _ => by omega⟩⟩, rfl⟩
      · have g : ((v : Int) == (x : Int)) = false := by simp; omega
        have HT := Lib.hid (show hasN v L = hasN v (L.drop (k + 1)) by rw [HFA.out, decide_eq_false he]; rfl)
        go_wp2_with fail
        go_round
        case rel => exact ⟨k + 1, by omega, by go_num, HT.out⟩
        case measure => simp [intOf]; omega
    · have HT := Lib.hid (show hasN v L = false by rw [HFB.out, List.drop_eq_nil_of_le (by rw [HN.out]; omega)]; rfl)
      go_wp2_with fail
      go_ret
      exact ⟨⟨-1, rfl, ⟨fun h => by omega, fun h => by rw [HT.out] at h; simp at h⟩⟩, rfl⟩
theorem ge_of_iff {k : Int} {b : Bool} (h : 0 ≤ k ↔ b = true) : decide (0 ≤ k) = b := by
  cases b
  · simp at h; simp; omega
  · simp at h; simp; omega
set_option maxHeartbeats 1000000 in
theorem pContains_any (v n c : Nat) (a : Option Addr) (L : List Nat) (hn : L.length = n) (hl : n ≤ 140737488351232) (w : World) (hU : Us w a L) :
    Calls Try.prog 46 #[.slice a n c, .int .u64 v] w fun e w' => e = .returned (.bool (hasN v L)) ∧ w = w' := by
  go_enter Try.func46, Try.ntmps46
  go_wp2_with fail
  refine (pIndex_any v n c a L hn hl _ hU).mono ?_
  rintro e w2 ⟨⟨k, rfl, hk⟩, rfl⟩
  have HK := Lib.hid hk
  clear hk hU
  go_wp2_with fail
  go_ret
  exact ⟨by rw [← ge_of_iff HK.out]; first | rfl | simp, rfl⟩
set_option maxHeartbeats 1000000 in
theorem may1_any (v n c x : Nat) (u : Value) (a : Option Addr) (L : List Nat) (hn : L.length = n) (hl : n ≤ 140737488351232) (w : World) (hU : Us w a L) (hC : Cb w x (.slice a n c) u) :
    Calls Try.prog 45 #[.int .u64 v, .pointer (some ⟨x, 0, none⟩)] w fun e w' => e = .returned (.bool (hasN v L)) ∧ w = w' := by
  obtain ⟨c0, c1, fz, lt⟩ := hC
  go_enter Try.func45, Try.ntmps45
  go_wp2_with fail
  refine (pContains_any v n c a L hn hl _ hU).mono ?_
  rintro e w2 ⟨rfl, rfl⟩
  go_wp2_with fail
  go_ret
  exact ⟨rfl, rfl⟩
/-- Whether two lists have a number in common. -/
def bothN (V : List Nat) : List Nat → Bool
  | [] => false
  | x :: r => hasN x V || bothN V r
theorem bothN_at {V : List Nat} {k x : Nat} {L : List Nat} (hx : L[k]? = some x) : bothN V (L.drop k) = (hasN x V || bothN V (L.drop (k + 1))) := by
  obtain ⟨hk, rfl⟩ := List.getElem?_eq_some_iff.1 hx
  rw [List.drop_eq_getElem_cons hk]; rfl
set_option maxHeartbeats 1000000 in
theorem pIndexF_any (n c x n2 c2 : Nat) (a a2 : Option Addr) (V L : List Nat) (hn : V.length = n) (hl : n ≤ 140737488351232) (hn2 : L.length = n2) (hl2 : n2 ≤ 140737488351232) (w : World) (hV : Us w a V) (hU : Us w a2 L) (u : Value) (hC : Cb w x (.slice a n c) u) :
    Calls Try.prog 48 #[.slice a2 n2 c2, .func (.func 45) #[] #[.pointer (some ⟨x, 0, none⟩)]] w fun e w' => (∃ k : Int, e = .returned (.int .i64 k) ∧ (0 ≤ k ↔ bothN V L = true)) ∧ w = w' := by
  have HN := Lib.hid hn2
  have HU := Lib.hid hU
  have HV := Lib.hid hV
  clear hn2 hU hV
  go_enter Try.func48, Try.ntmps48
  go_wp2_with fail
  go_loop [8] (fun u => ∃ k : Nat, k ≤ n2 ∧ u = .int .i64 k ∧ bothN V L = bothN V (L.drop k)) (fun u => n2 - (intOf u).toNat)
  case atStart => exact ⟨0, Nat.zero_le _, rfl, rfl⟩
  case round =>
    obtain ⟨k, hk, rfl, hf⟩ := hrel
    have HFB := Lib.hid hf
    clear hf
    by_cases hlt : k < n2
    · obtain ⟨y, hx⟩ : ∃ y, L[k]? = some y := ⟨_, List.getElem?_eq_getElem (by rw [HN.out]; exact hlt)⟩
      have i0 : (0 : Int) ≤ (k : Int) := by omega
      have i1 : (k : Int) < (n2 : Int) := by omega
      obtain ⟨b, off, rfl, hb, p0⟩ := HU.out k y hx
      have HFA := Lib.hid (HFB.out.trans (bothN_at (V := V) hx))
      clear hx
      obtain ⟨h, hh⟩ : ∃ h, hasN y V = h := ⟨_, rfl⟩
      have HH := Lib.hid hh
      clear hh
      go_wp2_with fail
      refine (may1_any y n c x u a V hn hl _ HV.out hC).mono ?_
      rintro e w2 ⟨rfl, rfl⟩
      rw [HH.out]
      cases h
      · have HT := Lib.hid (show bothN V L = bothN V (L.drop (k + 1)) by rw [HFA.out, HH.out]; rfl)
        go_wp2_with fail
        go_round
        case rel => exact ⟨k + 1, by omega, by go_num, HT.out⟩
        case measure => simp [intOf]; omega
      · have HT := Lib.hid (show bothN V L = true by rw [HFA.out, HH.out]; rfl)
        go_wp2_with fail
        go_ret
        exact ⟨⟨k, rfl, ⟨fun _ => HT.out, fun _ => by omega⟩⟩, rfl⟩
    · have HT := Lib.hid (show bothN V L = false by rw [HFB.out, List.drop_eq_nil_of_le (by rw [HN.out]; omega)]; rfl)
      go_wp2_with fail
      go_ret
      exact ⟨⟨-1, rfl, ⟨fun h => by omega, fun h => by rw [HT.out] at h; simp at h⟩⟩, rfl⟩
set_option maxHeartbeats 1000000 in
theorem pContainsF_any (n c x n2 c2 : Nat) (a a2 : Option Addr) (V L : List Nat) (hn : V.length = n) (hl : n ≤ 140737488351232) (hn2 : L.length = n2) (hl2 : n2 ≤ 140737488351232) (w : World) (hV : Us w a V) (hU : Us w a2 L) (u : Value) (hC : Cb w x (.slice a n c) u) :
    Calls Try.prog 29 #[.slice a2 n2 c2, .func (.func 45) #[] #[.pointer (some ⟨x, 0, none⟩)]] w fun e w' => e = .returned (.bool (bothN V L)) ∧ w = w' := by
  go_enter Try.func29, Try.ntmps29
  go_wp2_with fail
  refine (pIndexF_any n c x n2 c2 a a2 V L hn hl hn2 hl2 _ hV hU u hC).mono ?_
  rintro e w2 ⟨⟨k, rfl, hk⟩, rfl⟩
  have HK := Lib.hid hk
  clear hk hU hV
  go_wp2_with fail
  go_ret
  exact ⟨by rw [← ge_of_iff HK.out]; first | rfl | simp, rfl⟩
/-- Whether a list rises, behind p, and each is a node's number. -/
def risesF : Nat → List Nat → Bool
  | _, [] => true
  | p, x :: r => decide (p < x ∧ x ≤ 63) && risesF x r
theorem risesF_at {p k x : Nat} {L : List Nat} (hx : L[k]? = some x) : risesF p (L.drop k) = (decide (p < x ∧ x ≤ 63) && risesF x (L.drop (k + 1))) := by
  obtain ⟨hk, rfl⟩ := List.getElem?_eq_some_iff.1 hx
  rw [List.drop_eq_getElem_cons hk]; rfl
/-- The element ahead. -/
def prevN (L : List Nat) (k : Nat) : Nat := match k with | 0 => 0 | k + 1 => L.getD k 0
theorem prevN_at {L : List Nat} {k x : Nat} (hx : L[k]? = some x) : prevN L (k + 1) = x := by simp [prevN, List.getD, hx]
def membB (most : Nat) (L : List Nat) : Bool := decide (L.length ≤ most) && risesF 0 L
set_option maxHeartbeats 1000000 in
theorem pMayId_any (v : Nat) (w : World) : Calls Try.prog 58 #[.int .u64 v] w fun e w' => e = .returned (.bool (decide (1 ≤ v ∧ v ≤ 63))) ∧ w = w' := by
  by_cases h : 1 ≤ v
  · have g : (1 : Int) ≤ (v : Int) := by omega
    by_cases h2 : v ≤ 63
    · have g2 : (v : Int) ≤ 63 := by omega
      go_enter Try.func58, Try.ntmps58
      go_wp2_with fail
      go_ret
      exact ⟨by simp [h, h2], rfl⟩
    · have g2 : ¬ (v : Int) ≤ 63 := by omega
      go_enter Try.func58, Try.ntmps58
      go_wp2_with fail
      go_ret
      exact ⟨by simp, rfl⟩
  · have g : ¬ (1 : Int) ≤ (v : Int) := by omega
    go_enter Try.func58, Try.ntmps58
    go_wp2_with fail
    go_ret
    exact ⟨by simp, rfl⟩
end Go.Proofs.Ytoabpakichjieaa
