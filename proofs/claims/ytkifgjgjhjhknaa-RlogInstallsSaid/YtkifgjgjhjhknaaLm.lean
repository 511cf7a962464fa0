/- Joining: the entries ahead of an index; how many are known. -/
import Derived.Test.YtkifgjgjhjhknaaLz
namespace Go.Proofs.Ytkifgjgjhjhknaa
open Go.RowKit

set_option maxHeartbeats 1000000 in
theorem pAhead_any (base bt n c i k : Nat) (snap : ByteArray) (a : Option Addr) (L : List En) (hn : L.length = n) (hl : n ≤ 140737488351232) (hc : n ≤ c) (hcm : c ≤ maxLen) (hb : base < 4611686018427387904) (hi : i = base + k + 1) (hk : k ≤ n) (w : World) :
    Calls Try.prog 36 #[.agg #[.int .u64 base, .int .u64 bt, .string snap, .slice a n c], .int .u64 i] w fun e w' => e = .returned (.slice a k k) ∧ Below w.heap.size w w' := by
  obtain ⟨I, hI⟩ : ∃ I : Int, I = (i : Int) := ⟨_, rfl⟩
  rw [← hI]
  have e1 : IntKind.u64.wrap (I - (base : Int)) = (k : Int) + 1 := by rw [IntWalk.u64_in _ (by omega)]; omega
  have e2 : I - (base : Int) = (k : Int) + 1 := by omega
  have e3 : IntKind.u64.wrap ((k : Int) + 1 - 1) = (k : Int) := by rw [IntWalk.u64_in _ (by omega)]; omega
  have e4 : (k : Int) + 1 - 1 = (k : Int) := by omega
  have i0 : (0 : Int) ≤ (k : Int) := by omega
  have i1 : (k : Int) ≤ (n : Int) := by omega
  have i2 : (k : Int) ≤ (c : Int) := by omega
  unfold maxLen at hcm
  clear hn hI hi
  go_enter Try.func36, Try.ntmps36
  go_wp2_with fail
  go_ret
  exact ⟨rfl, by go_grown⟩
/-- How many of the entries behind an index a log has already. -/
def knF (base bt : Nat) (L : List En) : Nat → List En → Nat
  | _, [] => 0
  | prev, x :: r => if hasB base bt L (prev + 1) x.t = true then knF base bt L (prev + 1) r + 1 else 0
theorem knF_le (base bt : Nat) (L : List En) : ∀ (E : List En) (prev : Nat), knF base bt L prev E ≤ E.length
  | [], _ => Nat.le_refl _
  | x :: r, prev => by
    unfold knF; split
    · have := knF_le base bt L r (prev + 1); simp; omega
    · simp
theorem knF_has (base bt : Nat) (L : List En) : ∀ (E : List En) (prev j : Nat) (x : En), j < knF base bt L prev E → E[j]? = some x → hasB base bt L (prev + 1 + j) x.t = true
  | [], _, _, _, _, h => by simp at h
  | y :: r, prev, j, x, hj, h => by
    unfold knF at hj
    split at hj
    · rename_i hy
      cases j with
      | zero => simp at h; subst h; exact hy
      | succ j =>
        have := knF_has base bt L r (prev + 1) j x (by omega) (by simpa using h)
        rw [show prev + 1 + (j + 1) = prev + 1 + 1 + j by omega]; exact this
    · omega
theorem knF_not (base bt : Nat) (L : List En) : ∀ (E : List En) (prev : Nat) (x : En), E[knF base bt L prev E]? = some x → hasB base bt L (prev + 1 + knF base bt L prev E) x.t = false
  | [], _, _, h => by simp at h
  | y :: r, prev, x, h => by
    unfold knF at h ⊢
    split at h
    · rename_i hy
      rw [if_pos hy]
      have := knF_not base bt L r (prev + 1) x (by simpa using h)
      rw [show prev + 1 + (knF base bt L (prev + 1) r + 1) = prev + 1 + 1 + knF base bt L (prev + 1) r by omega]; exact this
    · rename_i hy
      rw [if_neg hy]
      simp at h; subst h; simpa using hy
theorem knF_eq {base bt : Nat} {L : List En} : ∀ (E : List En) (prev k : Nat), k ≤ E.length → (∀ j x, j < k → E[j]? = some x → hasB base bt L (prev + 1 + j) x.t = true) → (∀ x, E[k]? = some x → hasB base bt L (prev + 1 + k) x.t = false) → knF base bt L prev E = k
  | [], prev, k, hk, _, _ => by simp at hk; subst hk; rfl
  | y :: r, prev, k, hk, h1, h2 => by
    unfold knF
    cases k with
    | zero =>
      have := h2 y rfl
      rw [if_neg (by rw [Nat.add_zero] at this; rw [this]; simp)]
    | succ k =>
      rw [if_pos (by simpa using h1 0 y (by omega) rfl)]
      rw [knF_eq r (prev + 1) k (by simpa using hk) (fun j x hj hx => by
        have := h1 (j + 1) x (by omega) (by simpa using hx)
        rw [show prev + 1 + 1 + j = prev + 1 + (j + 1) by omega]; exact this) (fun x hx => by
        have := h2 x (by simpa using hx)
        rw [show prev + 1 + 1 + k = prev + 1 + (k + 1) by omega]; exact this)]
set_option maxHeartbeats 2000000 in
theorem pKnown_any (base bt n c prev m c2 : Nat) (snap : ByteArray) (a a2 : Option Addr) (L E : List En) (hn : L.length = n) (hl : n ≤ 140737488351232) (hb : base < 4611686018427387904) (hm : E.length = m) (hml : m ≤ 140737488351232) (hp : prev ≤ 9223372036854775807) (w : World) (hE : Ents w a L) (hE2 : Ents w a2 E) :
    Calls Try.prog 35 #[.agg #[.int .u64 base, .int .u64 bt, .string snap, .slice a n c], .int .u64 prev, .slice a2 m c2] w fun e w' => e = .returned (.int .i64 (knF base bt L prev E)) ∧ Below w.heap.size w w' := by
  have B0 : Below w.heap.size w (w.alloc (.cells #[.int .u64 base, .int .u64 bt, .string snap, .slice a n c] 25)) := (Below.refl _ _).alloc (Nat.le_refl _) _
  have L0 := Lb.new (w := w) rfl base bt snap (.slice a n c) 25
  have HN := Lib.hid hn
  have HM := Lib.hid hm
  have HE := Lib.hid hE
  have HE2 := Lib.hid hE2
  have HK := Lib.hid (knF_eq (base := base) (bt := bt) (L := L) E prev)
  clear hn hm hE hE2
  go_enter Try.func35, Try.ntmps35
  go_wp2_with fail
  generalize w.alloc (.cells #[.int .u64 base, .int .u64 bt, .string snap, .slice a n c] 25) = W at *
  go_loopw [11] (fun j wr => ∃ k : Nat, k ≤ m ∧ j = .int .i64 k ∧ (∀ j x, j < k → E[j]? = some x → hasB base bt L (prev + 1 + j) x.t = true) ∧ Below W.heap.size W wr) (fun j _ => m - (intOf j).toNat)
  case atStart => exact ⟨0, Nat.zero_le _, rfl, fun j x h => by omega, Below.refl _ _⟩
  case round =>
    obtain ⟨k, hk, rfl, hall, B⟩ := hrel
    have B1 := B0.trans (B.mono B0.size)
    have HA := Lib.hid hall
    clear hall
    by_cases hlt : k < m
    · have hkl : k < E.length := by have := HM.out; omega
      obtain ⟨x, hx⟩ : ∃ x, E[k]? = some x := ⟨_, List.getElem?_eq_getElem hkl⟩
      obtain ⟨b, off, rfl, hbb, p0, p1⟩ := (HE2.out.later B1) k x hx
      obtain ⟨hh, hhb⟩ : ∃ hh, hasB base bt L (prev + 1 + k) x.t = hh := ⟨_, rfl⟩
      have HX := Lib.hid hx
      have HH := Lib.hid hhb
      have i0 : (0 : Int) ≤ (k : Int) := by omega
      have i1 : (k : Int) < (m : Int) := by omega
      have L1 := L0.later B
      obtain ⟨l0, l1, l2, l3, lz, ll⟩ := L1
      obtain ⟨q, hq⟩ : ∃ q, prev + 1 + k = q := ⟨_, rfl⟩
      have e1 : (prev : Int) + (k : Int) + 1 = (q : Int) := by omega
      have hq2 : q < 18446744073709551616 := by omega
      have hpk : (prev : Int) + (k : Int) ≤ 18446744073709551615 := by omega
      have HQ := Lib.hid hq
      rw [hq] at HH
      have hEa := (HE.out.later B1)
      have hEb : Ents (wr.alloc (.cells #[.int .u64 x.t, .string x.d] 39)) a L := hEa.later ((Below.refl _ _).alloc (Nat.le_refl _) _)
      clear hx hhb hq hkl
      go_wp2_with fail
      refine (pHas_any base bt n c q x.t snap a L HN.out hl hb hq2 _ hEb).mono ?_
      rintro e w3 ⟨rfl, hb3⟩
      rw [HH.out]
      have B3 : Below W.heap.size W w3 := (B.alloc B.size _).trans (hb3.mono (by have := B.size; simp; omega))
      clear hb3 hEa hEb p0 p1 l0 l1 l2 l3 lz
      cases hh
      · have HF := Lib.hid (HK.out k (by rw [HM.out]; exact hk) HA.out (fun y hy => by have := HX.out; rw [this] at hy; cases hy; rw [HQ.out]; exact HH.out))
        go_wp2_with fail
        go_ret
        exact ⟨by rw [HF.out]; rfl, B0.trans (B3.mono B0.size)⟩
      · have hall2 : ∀ j y, j < k + 1 → E[j]? = some y → hasB base bt L (prev + 1 + j) y.t = true := fun j y hj hy => by
          by_cases h : j = k
          · subst h; have := HX.out; rw [this] at hy; cases hy; rw [HQ.out]; exact HH.out
          · exact HA.out j y (by omega) hy
        have HA2 := Lib.hid hall2
        clear hall2
        go_wp2_with fail
        go_roundw
        case rel => exact ⟨k + 1, by omega, by go_num, HA2.out, B3⟩
        case measure => simp [intOf]; omega
    · obtain rfl : k = m := by omega
      have HF := Lib.hid (HK.out k (by rw [HM.out]; exact Nat.le_refl _) HA.out (fun x hx => by have := (List.getElem?_eq_some_iff.1 hx).1; have := HM.out; omega))
      go_wp2_with fail
      go_ret
      exact ⟨by rw [HF.out]; rfl, B1⟩
end Go.Proofs.Ytkifgjgjhjhknaa
