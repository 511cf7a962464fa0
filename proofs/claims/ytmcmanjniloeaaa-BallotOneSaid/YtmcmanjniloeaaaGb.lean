/- Which configurations may be: the program's parts, and the document's. -/
import Derived.Test.YtmcmanjniloeaaaGa
namespace Go.Proofs.Ytmcmanjniloeaaa
open Go.RowKit

set_option maxHeartbeats 1000000 in
theorem rHas_any (v n c : Nat) (a : Option Addr) (L : List Nat) (hn : L.length = n) (hl : n ≤ 140737488351232) (w : World) (hU : Us w a L) :
    Calls Try.prog 25 #[.slice a n c, .int .u64 v] w fun e w' => e = .returned (.bool (hasN v L)) ∧ w = w' := by
  have HN := Lib.hid hn
  have HU := Lib.hid hU
  clear hn hU
  go_enter Try.func25, Try.ntmps25
  go_wp2_with fail
  go_loop [5] (fun u => ∃ k : Nat, k ≤ n ∧ u = .int .i64 k ∧ hasN v L = hasN v (L.drop k)) (fun u => n - (intOf u).toNat)
  case atStart => exact ⟨0, Nat.zero_le _, rfl, rfl⟩
  case round =>
    obtain ⟨k, hk, rfl, hf⟩ := hrel
    have HFB := Lib.hid hf
    clear hf
    by_cases hlt : k < n
    · obtain ⟨x, hx⟩ : ∃ x, L[k]? = some x := ⟨_, List.getElem?_eq_getElem (by rw [HN.out]; exact hlt)⟩
      have i0 : (0 : Int) ≤ (k : Int) := by omega
      have i1 : (k : Int) < (n : Int) := by omega
      obtain ⟨b, off, rfl, hb, p0⟩ := HU.out k x hx
      have HFA := Lib.hid (HFB.out.trans (hasN_at (v := v) hx))
      clear hx
      by_cases he : x = v
      · subst he
        have HT := Lib.hid (show hasN x L = true by rw [HFA.out]; simp)
        go_wp2_with fail
        go_ret
        exact ⟨by rw [HT.out]; first | rfl | simp, rfl⟩
      · have g : ((x : Int) == (v : Int)) = false := by simp; omega
        have HT := Lib.hid (show hasN v L = hasN v (L.drop (k + 1)) by rw [HFA.out, decide_eq_false he]; rfl)
        go_wp2_with fail
        go_round
        case rel => exact ⟨k + 1, by omega, by go_num, HT.out⟩
        case measure => simp [intOf]; omega
    · have HT := Lib.hid (show hasN v L = false by rw [HFB.out, List.drop_eq_nil_of_le (by rw [HN.out]; omega)]; rfl)
      go_wp2_with fail
      go_ret
      exact ⟨by rw [HT.out]; first | rfl | simp, rfl⟩
theorem ge_of_iff {k : Int} {b : Bool} (h : 0 ≤ k ↔ b = true) : decide (0 ≤ k) = b := by
  cases b
  · simp at h; simp; omega
  · simp at h; simp; omega
/-- Whether two lists have a number in common. -/
def bothN (V : List Nat) : List Nat → Bool
  | [] => false
  | x :: r => hasN x V || bothN V r
theorem bothN_at {V : List Nat} {k x : Nat} {L : List Nat} (hx : L[k]? = some x) : bothN V (L.drop k) = (hasN x V || bothN V (L.drop (k + 1))) := by
  obtain ⟨hk, rfl⟩ := List.getElem?_eq_some_iff.1 hx
  rw [List.drop_eq_getElem_cons hk]; rfl
/-- Whether a list rises, behind p, and each is a node's number. -/
def risesF : Nat → List Nat → Bool
  | _, [] => true
  | p, x :: r => decide (p < x ∧ x ≤ 63) && risesF x r
theorem risesF_at {p k x : Nat} {L : List Nat} (hx : L[k]? = some x) : risesF p (L.drop k) = (decide (p < x ∧ x ≤ 63) && risesF x (L.drop (k + 1))) := by
  obtain ⟨hk, rfl⟩ := List.getElem?_eq_some_iff.1 hx
  rw [List.drop_eq_getElem_cons hk]; rfl
/-- The element ahead. -/
def prevN (L : List Nat) (k : Nat) : Nat := match k with | 0 => 0 | k + 1 => L.getD k 0
theorem prevN_at {L : List Nat} {k x : Nat} (hx : L[k]? = some x) : prevN L (k + 1) = x := by simp [prevN, List.getD, hx]
def membB (most : Nat) (L : List Nat) : Bool := decide (L.length ≤ most) && risesF 0 L
end Go.Proofs.Ytmcmanjniloeaaa
