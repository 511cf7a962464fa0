/- Logs: last, an index's term, whether an index is had: the program and the document. -/
import Derived.Test.YtkifgjgjhjhknaaEn
namespace Go.Proofs.Ytkifgjgjhjhknaa
open Go.RowKit

/-- The last term. -/
def lastT (bt : Nat) (L : List En) : Nat := match L[L.length - 1]? with | some x => x.t | none => bt
theorem lastT_nil (bt : Nat) : lastT bt [] = bt := rfl
theorem lastT_at {bt : Nat} {L : List En} {x : En} (h : L[L.length - 1]? = some x) : lastT bt L = x.t := by unfold lastT; rw [h]
theorem lastT_take_succ {bt k : Nat} {L : List En} {x : En} (h : L[k]? = some x) : lastT bt (L.take (k + 1)) = x.t := by
  have hk := (List.getElem?_eq_some_iff.1 h).1
  apply lastT_at
  rw [List.length_take, Nat.min_eq_left (by omega), Nat.add_sub_cancel, List.getElem?_take_of_lt (by omega)]; exact h
/-- The term with which a log has an index. -/
def tAt (base bt : Nat) (L : List En) (i : Nat) : Nat × Bool :=
  if i = base then (bt, true) else if i < base then (0, false) else match L[i - base - 1]? with | some x => (x.t, true) | none => (0, false)
theorem tAt_base (base bt : Nat) (L : List En) : tAt base bt L base = (bt, true) := by simp [tAt]
theorem tAt_low {base i : Nat} (bt : Nat) (L : List En) (h : i < base) : tAt base bt L i = (0, false) := by simp [tAt, h, show ¬ i = base by omega]
theorem tAt_hi {base i : Nat} (bt : Nat) (L : List En) (h : base < i) (h2 : base + L.length < i) : tAt base bt L i = (0, false) := by
  unfold tAt; rw [if_neg (by omega), if_neg (by omega), List.getElem?_eq_none (by omega)]
theorem tAt_in {base i k : Nat} (bt : Nat) {L : List En} {x : En} (h : i = base + k + 1) (hx : L[k]? = some x) : tAt base bt L i = (x.t, true) := by
  unfold tAt; rw [if_neg (by omega), if_neg (by omega), show i - base - 1 = k by omega, hx]

@[reducible] def lgV (base bt : Nat) (snap : ByteArray) (a : Option Addr) (n c : Nat) : Value := .agg #[.int .u64 base, .int .u64 bt, .string snap, .slice a n c]

set_option maxHeartbeats 1000000 in
theorem pLast_any (base bt n c : Nat) (snap : ByteArray) (a : Option Addr) (L : List En) (hn : L.length = n) (hl : n ≤ 140737488351232) (hb : base < 4611686018427387904) (w : World) (hE : Ents w a L) :
    Calls Try.prog 10 #[.agg #[.int .u64 base, .int .u64 bt, .string snap, .slice a n c]] w fun e w' => e = .returned (.tuple #[.int .u64 (base + n : Nat), .int .u64 (lastT bt L)]) ∧ Below w.heap.size w w' := by
  by_cases h0 : n = 0
  · subst h0
    obtain rfl : L = [] := List.length_eq_zero_iff.1 hn
    rw [lastT_nil]
    clear hE hn
    go_enter Try.func10, Try.ntmps10
    go_wp2_with fail
    go_quiet (fail)
    go_wp2_with fail
    go_ret2
    exact ⟨by simp, below_drewN (by go_grown) _⟩
  · obtain ⟨x, hx⟩ : ∃ x, L[L.length - 1]? = some x := ⟨_, List.getElem?_eq_getElem (by omega)⟩
    rw [lastT_at hx]
    rw [hn] at hx
    have hE0 := hE.later (w' := w.alloc (.cells #[.int .u64 base, .int .u64 bt, .string snap, .slice a n c] 25)) ((Below.refl _ _).alloc (Nat.le_refl _) _)
    obtain ⟨b, off, rfl, hlt, p0, p1⟩ := hE0 _ x hx
    have g0 : ((n : Int) == 0) = false := by simpa using h0
    have e1 : IntKind.i64.wrap ((n : Int) - 1) = (n : Int) - 1 := IntWalk.i64_in _ (by omega)
    have e3 : ((n : Int) - 1).toNat = n - 1 := by omega
    have i0 : 0 ≤ (n : Int) - 1 := by omega
    have i1 : (n : Int) - 1 < (n : Int) := by omega
    have e2 : IntKind.u64.wrap ((base : Int) + (n : Int)) = (base : Int) + (n : Int) := IntWalk.u64_in _ (by omega)
    have HX := Lib.hid hx; clear hx
    have HN := Lib.hid hn; clear hn hE hE0
    go_enter Try.func10, Try.ntmps10
    go_wp2_with fail
    go_quiet (fail)
    go_wp2_with fail
    go_ret2
    exact ⟨by simp, below_drewN (by go_grown) _⟩
set_option maxHeartbeats 1000000 in
theorem rLast_any (base bt n c : Nat) (snap : ByteArray) (a : Option Addr) (L : List En) (hn : L.length = n) (hl : n ≤ 140737488351232) (hb : base < 4611686018427387904) (w : World) (hE : Ents w a L) :
    Calls Try.prog 11 #[.agg #[.int .u64 base, .int .u64 bt, .string snap, .slice a n c]] w fun e w' => e = .returned (.tuple #[.int .u64 (base + n : Nat), .int .u64 (lastT bt L)]) ∧ Below w.heap.size w w' := by
  have B0 : Below w.heap.size w (w.alloc (.cells #[.int .u64 base, .int .u64 bt, .string snap, .slice a n c] 25)) := (Below.refl _ _).alloc (Nat.le_refl _) _
  have hE0 := hE.later B0
  have HN := Lib.hid hn
  have HB := Lib.hid B0
  clear hn hE B0
  go_enter Try.func11, Try.ntmps11
  go_wp2_with fail
  have hL := Lb.new (w := w) rfl base bt snap (.slice a n c) 25
  obtain ⟨l0, l1, l2, l3, _, _⟩ := hL
  generalize w.alloc (.cells #[.int .u64 base, .int .u64 bt, .string snap, .slice a n c] 25) = W at *
  go_loop [4, 5, 6] (fun i t k => ∃ j : Nat, j ≤ n ∧ k = .int .i64 j ∧ i = .int .u64 (base + j : Nat) ∧ t = .int .u64 (lastT bt (L.take j))) (fun _ _ k => n - (intOf k).toNat)
  case atStart => exact ⟨0, Nat.zero_le _, rfl, rfl, rfl⟩
  case round =>
    obtain ⟨k, hk, rfl, rfl, rfl⟩ := hrel
    by_cases hlt : k < n
    · have hkl : k < L.length := by have := HN.out; omega
      obtain ⟨x, hx⟩ : ∃ x, L[k]? = some x := ⟨_, List.getElem?_eq_getElem hkl⟩
      obtain ⟨b, off, rfl, hbb, p0, p1⟩ := hE0 k x hx
      have hs := lastT_take_succ (bt := bt) hx
      have HS := Lib.hid hs
      have HX := Lib.hid hx
      clear hs hx
      have i0 : (0 : Int) ≤ (k : Int) := by omega
      have i1 : (k : Int) < (n : Int) := by omega
      have hbd : base + k < 5000000000000000000 := by omega
      go_wp2_with fail
      go_round
      case rel => exact ⟨k + 1, by omega, by go_num, by go_num, by rw [HS.out]⟩
      case measure => simp [intOf]; omega
    · obtain rfl : k = n := by omega
      have hs : lastT bt (L.take k) = lastT bt L := by rw [List.take_of_length_le (by have := HN.out; omega)]
      rw [hs]
      clear hs
      go_wp2_with fail
      go_ret2
      exact ⟨rfl, HB.out⟩
set_option maxHeartbeats 1000000 in
theorem pTermAt_any (base bt n c i : Nat) (snap : ByteArray) (a : Option Addr) (L : List En) (hn : L.length = n) (hl : n ≤ 140737488351232) (hb : base < 4611686018427387904) (hi : i < 18446744073709551616) (w : World) (hE : Ents w a L) :
    Calls Try.prog 12 #[.agg #[.int .u64 base, .int .u64 bt, .string snap, .slice a n c], .int .u64 i] w fun e w' => e = .returned (.tuple #[.int .u64 (tAt base bt L i).1, .bool (tAt base bt L i).2]) ∧ Below w.heap.size w w' := by
  by_cases h0 : i = base
  · subst h0
    rw [tAt_base]
    clear hE hn
    go_enter Try.func12, Try.ntmps12
    go_wp2_with fail
    go_ret2
    exact ⟨rfl, by go_grown⟩
  by_cases h1 : i < base
  · rw [tAt_low bt L h1]
    clear hE hn
    have e : IntKind.u64.wrap ((i : Int) - (base : Int)) = (i : Int) - (base : Int) + 18446744073709551616 := by
      simp [IntKind.wrap, IntKind.bits, IntKind.signed]; omega
    have g0 : ((i : Int) - (base : Int) + 18446744073709551616 == 0) = false := by simp; omega
    have g1 : ¬ (i : Int) - (base : Int) + 18446744073709551616 ≤ (n : Int) := by omega
    go_enter Try.func12, Try.ntmps12
    go_wp2_with fail
    go_ret2
    exact ⟨rfl, by go_grown⟩
  have g0 : ((i : Int) - (base : Int) == 0) = false := by simp; omega
  by_cases h2 : base + n < i
  · rw [tAt_hi bt L (by omega) (by omega)]
    clear hE hn
    have g1 : ¬ (i : Int) - (base : Int) ≤ (n : Int) := by omega
    have g2 : (base : Int) ≤ (i : Int) := by omega
    go_enter Try.func12, Try.ntmps12
    go_wp2_with fail
    go_ret2
    exact ⟨rfl, by go_grown⟩
  · obtain ⟨k, hk⟩ : ∃ k, i = base + k + 1 := ⟨i - base - 1, by omega⟩
    obtain ⟨x, hx⟩ : ∃ x, L[k]? = some x := ⟨_, List.getElem?_eq_getElem (by omega)⟩
    rw [tAt_in bt hk hx]
    obtain ⟨I, hI⟩ : ∃ I : Int, I = (i : Int) := ⟨_, rfl⟩
    rw [← hI]
    have hE0 := hE.later (w' := w.alloc (.cells #[.int .u64 base, .int .u64 bt, .string snap, .slice a n c] 25)) ((Below.refl _ _).alloc (Nat.le_refl _) _)
    obtain ⟨b, off, rfl, hlt, p0, p1⟩ := hE0 _ x hx
    have hkn : k < n := by have := (List.getElem?_eq_some_iff.1 hx).1; omega
    have e1 : IntKind.u64.wrap (I - (base : Int)) = (k : Int) + 1 := by rw [IntWalk.u64_in _ (by omega)]; omega
    have e2 : I - (base : Int) = (k : Int) + 1 := by omega
    have HI := Lib.hid hI
    have HK := Lib.hid hk
    clear hI hk hi
    have g0 : ((k : Int) + 1 == 0) = false := by simp; omega
    have g1 : (k : Int) + 1 ≤ (n : Int) := by omega
    have HX := Lib.hid hx
    clear hx hE hE0 hn h0 h1 h2
    go_enter Try.func12, Try.ntmps12
    go_wp2_with fail
    go_ret2
    exact ⟨rfl, by go_grown⟩
set_option maxHeartbeats 1000000 in
theorem rTermAt_any (base bt n c i : Nat) (snap : ByteArray) (a : Option Addr) (L : List En) (hn : L.length = n) (hl : n ≤ 140737488351232) (hb : base < 4611686018427387904) (hi : i < 18446744073709551616) (w : World) (hE : Ents w a L) :
    Calls Try.prog 13 #[.agg #[.int .u64 base, .int .u64 bt, .string snap, .slice a n c], .int .u64 i] w fun e w' => e = .returned (.tuple #[.int .u64 (tAt base bt L i).1, .bool (tAt base bt L i).2]) ∧ Below w.heap.size w w' := by
  by_cases h0 : i = base
  · subst h0
    rw [tAt_base]
    clear hE hn
    go_enter Try.func13, Try.ntmps13
    go_wp2_with fail
    go_ret2
    exact ⟨rfl, by go_grown⟩
  have g0 : ((i : Int) == (base : Int)) = false := by simp; omega
  by_cases h1 : i < base
  · rw [tAt_low bt L h1]
    have g1 : (i : Int) < (base : Int) := by omega
    clear hE hn
    go_enter Try.func13, Try.ntmps13
    go_wp2_with fail
    go_ret2
    exact ⟨rfl, by go_grown⟩
  have g1 : ¬ (i : Int) < (base : Int) := by omega
  have g3 : (base : Int) ≤ (i : Int) := by omega
  by_cases h2 : base + n < i
  · rw [tAt_hi bt L (by omega) (by omega)]
    clear hE hn
    have g2 : (n : Int) < (i : Int) - (base : Int) := by omega
    go_enter Try.func13, Try.ntmps13
    go_wp2_with fail
    go_ret2
    exact ⟨rfl, by go_grown⟩
  · obtain ⟨k, hk⟩ : ∃ k, i = base + k + 1 := ⟨i - base - 1, by omega⟩
    obtain ⟨x, hx⟩ : ∃ x, L[k]? = some x := ⟨_, List.getElem?_eq_getElem (by omega)⟩
    rw [tAt_in bt hk hx]
    obtain ⟨I, hI⟩ : ∃ I : Int, I = (i : Int) := ⟨_, rfl⟩
    rw [← hI] at g0 g1 g3 ⊢
    have hE0 := hE.later (w' := w.alloc (.cells #[.int .u64 base, .int .u64 bt, .string snap, .slice a n c] 25)) ((Below.refl _ _).alloc (Nat.le_refl _) _)
    obtain ⟨b, off, rfl, hlt, p0, p1⟩ := hE0 _ x hx
    have hkn : k < n := by have := (List.getElem?_eq_some_iff.1 hx).1; omega
    have e1 : IntKind.u64.wrap (I - (base : Int)) = (k : Int) + 1 := by rw [IntWalk.u64_in _ (by omega)]; omega
    have e2 : I - (base : Int) = (k : Int) + 1 := by omega
    have g2 : ¬ (n : Int) < (k : Int) + 1 := by omega
    have HI := Lib.hid hI
    have HK := Lib.hid hk
    clear hI hk hi
    have HX := Lib.hid hx
    clear hx hE hE0 hn h0 h1 h2
    go_enter Try.func13, Try.ntmps13
    go_wp2_with fail
    go_ret2
    exact ⟨rfl, by go_grown⟩
/-- Whether a log has an index with a term. -/
def hasB (base bt : Nat) (L : List En) (i term : Nat) : Bool := (tAt base bt L i).2 && decide ((tAt base bt L i).1 = term)
set_option maxHeartbeats 1000000 in
theorem pHas_any (base bt n c i term : Nat) (snap : ByteArray) (a : Option Addr) (L : List En) (hn : L.length = n) (hl : n ≤ 140737488351232) (hb : base < 4611686018427387904) (hi : i < 18446744073709551616) (w : World) (hE : Ents w a L) :
    Calls Try.prog 34 #[.agg #[.int .u64 base, .int .u64 bt, .string snap, .slice a n c], .int .u64 i, .int .u64 term] w fun e w' => e = .returned (.bool (hasB base bt L i term)) ∧ Below w.heap.size w w' := by
  have B0 : Below w.heap.size w (w.alloc (.cells #[.int .u64 base, .int .u64 bt, .string snap, .slice a n c] 25)) := (Below.refl _ _).alloc (Nat.le_refl _) _
  have hE0 := hE.later B0
  have HN := Lib.hid hn
  clear hn hE
  unfold hasB
  obtain ⟨p, hp⟩ : ∃ p, tAt base bt L i = p := ⟨_, rfl⟩
  rw [hp]
  have HP := Lib.hid hp
  clear hp
  obtain ⟨t, b⟩ := p
  go_enter Try.func34, Try.ntmps34
  go_wp2_with fail
  refine (pTermAt_any base bt n c i snap a L HN.out hl hb hi _ hE0).mono ?_
  rintro e w1 ⟨rfl, hb1⟩
  have B1 := B0.trans (hb1.mono B0.size)
  clear hE0 B0 hb1
  rw [HP.out]
  cases b
  · go_wp2_with fail
    go_ret
    exact ⟨by simp, B1⟩
  · by_cases ht : t = term
    · subst ht
      go_wp2_with fail
      go_ret
      exact ⟨by simp, B1⟩
    · have g : ((t : Int) == (term : Int)) = false := by simp; omega
      go_wp2_with fail
      go_ret
      exact ⟨by simp [ht], B1⟩
/-- Which end is newer. -/
def newB (at' ai bt bi : Nat) : Bool := decide (bt < at') || (decide (at' = bt) && decide (bi ≤ ai))
theorem pNewer_any (a b c d : Nat) (w : World) : Calls Try.prog 16 #[.int .u64 a, .int .u64 b, .int .u64 c, .int .u64 d] w fun e w' => e = .returned (.bool (newB a b c d)) ∧ w = w' := by
  unfold newB
  by_cases h : c < a
  · have g : (c : Int) < (a : Int) := by omega
    go_enter Try.func16, Try.ntmps16
    go_wp2_with fail
    go_ret
    exact ⟨by simp [h], rfl⟩
  have g : ¬ (c : Int) < (a : Int) := by omega
  by_cases h2 : a = c
  · subst h2
    by_cases h3 : d ≤ b
    · have g3 : (d : Int) ≤ (b : Int) := by omega
      go_enter Try.func16, Try.ntmps16
      go_wp2_with fail
      go_ret
      exact ⟨by simp, rfl⟩
    · have g3 : ¬ (d : Int) ≤ (b : Int) := by omega
      go_enter Try.func16, Try.ntmps16
      go_wp2_with fail
      go_ret
      exact ⟨by simp, rfl⟩
  · have g2 : ((a : Int) == (c : Int)) = false := by simp; omega
    go_enter Try.func16, Try.ntmps16
    go_wp2_with fail
    go_ret
    exact ⟨by simp, rfl⟩
theorem rNewer_any (a b c d : Nat) (w : World) : Calls Try.prog 17 #[.int .u64 a, .int .u64 b, .int .u64 c, .int .u64 d] w fun e w' => e = .returned (.bool (newB a b c d)) ∧ w = w' := by
  unfold newB
  by_cases h2 : a = c
  · subst h2
    by_cases h3 : d ≤ b
    · have g3 : (d : Int) ≤ (b : Int) := by omega
      go_enter Try.func17, Try.ntmps17
      go_wp2_with fail
      go_ret
      exact ⟨by simp [h3], rfl⟩
    · have g3 : ¬ (d : Int) ≤ (b : Int) := by omega
      go_enter Try.func17, Try.ntmps17
      go_wp2_with fail
      go_ret
      exact ⟨by simp, rfl⟩
  · have g2 : ((a : Int) == (c : Int)) = false := by simp; omega
    by_cases h : c < a
    · have g : (c : Int) < (a : Int) := by omega
      go_enter Try.func17, Try.ntmps17
      go_wp2_with fail
      go_ret
      exact ⟨by simp [h], rfl⟩
    · have g : ¬ (c : Int) < (a : Int) := by omega
      go_enter Try.func17, Try.ntmps17
      go_wp2_with fail
      go_ret
      exact ⟨by simp, rfl⟩
end Go.Proofs.Ytkifgjgjhjhknaa
