/- Logs: last, an index's term, whether an index is had: the program and the document. -/
import Derived.Test.YtdcpiaoadbbdoaaGreatDoorRb
import Derived.Deep.QuietTactic
import Derived.BigQuiet
import Derived.Laws.StructEq
import Derived.WalkSmall
import Derived.Outline
import Derived.RegionTactic
import Derived.Deep.Upon
import Derived.Deep.RegionWith
import Derived.Deep.RegionLaw
import Derived.Deep.AppendLies
import Derived.Deep.RegionHeld3
import Derived.Deep.DeepAppendWide
set_option maxRecDepth 100000
set_option maxHeartbeats 16000000
namespace Go.Proofs.YtdcpiaoadbbdoaaGreatDoor
open Go.RowKit

def lastT (bt : Nat) (L : List En) : Nat := match L[L.length - 1]? with | some x => x.t | none => bt
theorem lastT_nil (bt : Nat) : lastT bt [] = bt := rfl
theorem lastT_at {bt : Nat} {L : List En} {x : En} (h : L[L.length - 1]? = some x) : lastT bt L = x.t := by unfold lastT; rw [h]
theorem lastT_take_succ {bt k : Nat} {L : List En} {x : En} (h : L[k]? = some x) : lastT bt (L.take (k + 1)) = x.t := by
 have hk := (List.getElem?_eq_some_iff.1 h).1
 apply lastT_at
 rw [List.length_take, Nat.min_eq_left (by omega), Nat.add_sub_cancel, List.getElem?_take_of_lt (by omega)]; exact h
def tAt (base bt : Nat) (L : List En) (i : Nat) : Nat × Bool :=
 if i = base then (bt, true) else if i < base then (0, false) else match L[i - base - 1]? with | some x => (x.t, true) | none => (0, false)
theorem tAt_base (base bt : Nat) (L : List En) : tAt base bt L base = (bt, true) := by simp [tAt]
theorem tAt_low {base i : Nat} (bt : Nat) (L : List En) (h : i < base) : tAt base bt L i = (0, false) := by simp [tAt, h, show ¬ i = base by omega]
theorem tAt_hi {base i : Nat} (bt : Nat) (L : List En) (h : base < i) (h2 : base + L.length < i) : tAt base bt L i = (0, false) := by
 unfold tAt; rw [if_neg (by omega), if_neg (by omega), List.getElem?_eq_none (by omega)]
theorem tAt_in {base i k : Nat} (bt : Nat) {L : List En} {x : En} (h : i = base + k + 1) (hx : L[k]? = some x) : tAt base bt L i = (x.t, true) := by
 unfold tAt; rw [if_neg (by omega), if_neg (by omega), show i - base - 1 = k by omega, hx]

theorem pLast_any (base bt n c : Nat) (snap : ByteArray) (a : Option Addr) (L : List En) (hn : L.length = n) (hl : n ≤ 140737488351232) (hb : base < 4611686018427387904) (w : World) (hE : Ents w a L) :
 Calls Tryz.prog 86 #[.agg #[.int .u64 base, .int .u64 bt, .string snap, .slice a n c]] w fun e w' => e = .returned (.tuple #[.int .u64 (base + n : Nat), .int .u64 (lastT bt L)]) ∧ Below w.heap.size w w' := by
 by_cases h0 : n = 0
 · subst h0
   obtain rfl : L = [] := List.length_eq_zero_iff.1 hn
   rw [lastT_nil]
   clear hE hn
   go_enter Tryz.func86, Tryz.ntmps86
   go_wp2_with fail
   go_quiet (fail)
   go_wp2_with fail
   go_ret2
   exact ⟨by simp, below_drewN (by go_grown) _⟩
 · obtain ⟨x, hx⟩ : ∃ x, L[L.length - 1]? = some x := ⟨_, List.getElem?_eq_getElem (by omega)⟩
   rw [lastT_at hx]
   rw [hn] at hx
   have hE0 := hE.later (w' := w.alloc (.cells #[.int .u64 base, .int .u64 bt, .string snap, .slice a n c] 28)) ((Below.refl _ _).alloc (Nat.le_refl _) _)
   obtain ⟨b, off, rfl, hlt, p0, p1⟩ := hE0 _ x hx
   have g0 : ((n : Int) == 0) = false := by simpa using h0
   have e1 : IntKind.i64.wrap ((n : Int) - 1) = (n : Int) - 1 := IntWalk.i64_in _ (by omega)
   have e3 : ((n : Int) - 1).toNat = n - 1 := by omega
   have i0 : 0 ≤ (n : Int) - 1 := by omega
   have i1 : (n : Int) - 1 < (n : Int) := by omega
   have e2 : IntKind.u64.wrap ((base : Int) + (n : Int)) = (base : Int) + (n : Int) := IntWalk.u64_in _ (by omega)
   have HX := hI_ hx; clear hx
   have HN := hI_ hn; clear hn hE hE0
   go_enter Tryz.func86, Tryz.ntmps86
   go_wp2_with fail
   go_quiet (fail)
   go_wp2_with fail
   go_ret2
   exact ⟨by simp, below_drewN (by go_grown) _⟩
theorem rLast_any (base bt n c : Nat) (snap : ByteArray) (a : Option Addr) (L : List En) (hn : L.length = n) (hl : n ≤ 140737488351232) (hb : base < 4611686018427387904) (w : World) (hE : Ents w a L) :
 Calls Tryz.prog 51 #[.agg #[.int .u64 base, .int .u64 bt, .string snap, .slice a n c]] w fun e w' => e = .returned (.tuple #[.int .u64 (base + n : Nat), .int .u64 (lastT bt L)]) ∧ Below w.heap.size w w' := by
 have B0 : Below w.heap.size w (w.alloc (.cells #[.int .u64 base, .int .u64 bt, .string snap, .slice a n c] 28)) := (Below.refl _ _).alloc (Nat.le_refl _) _
 have hE0 := hE.later B0
 have HN := hI_ hn
 have HB := hI_ B0
 clear hn hE B0
 go_enter Tryz.func51, Tryz.ntmps51
 go_wp2_with fail
 have hL := Lb.new (w := w) rfl base bt snap (.slice a n c) 28
 obtain ⟨l0, l1, l2, l3, _, _⟩ := hL
 generalize w.alloc (.cells #[.int .u64 base, .int .u64 bt, .string snap, .slice a n c] 28) = W at *
 go_loop [4, 5, 6] (fun i t k => ∃ j : Nat, j ≤ n ∧ k = .int .i64 j ∧ i = .int .u64 (base + j : Nat) ∧ t = .int .u64 (lastT bt (L.take j))) (fun _ _ k => n - (intOf k).toNat)
 case atStart => exact ⟨0, Nat.zero_le _, rfl, rfl, rfl⟩
 case round =>
  obtain ⟨k, hk, rfl, rfl, rfl⟩ := hrel
  by_cases hlt : k < n
  · have hkl : k < L.length := by have := HN.out; omega
    obtain ⟨x, hx⟩ : ∃ x, L[k]? = some x := ⟨_, List.getElem?_eq_getElem hkl⟩
    obtain ⟨b, off, rfl, hbb, p0, p1⟩ := hE0 k x hx
    have hs := lastT_take_succ (bt := bt) hx
    have HS := hI_ hs
    have HX := hI_ hx
    clear hs hx
    have i0 : (0 : Int) ≤ (k : Int) := by omega
    have i1 : (k : Int) < (n : Int) := by omega
    have hbd : base + k < 5000000000000000000 := by omega
    go_wp2_with fail
    go_round
    case rel => exact ⟨k + 1, by omega, by go_num, by go_num, by rw [HS.out]⟩
    case measure => simp [intOf]; omega
  · obtain rfl : k = n := by omega
    have hs : lastT bt (L.take k) = lastT bt L := by rw [List.take_of_length_le (by have := HN.out; omega)]
    rw [hs]
    clear hs
    go_wp2_with fail
    go_ret2
    exact ⟨rfl, HB.out⟩
theorem pTermAt_any (base bt n c i : Nat) (snap : ByteArray) (a : Option Addr) (L : List En) (hn : L.length = n) (hl : n ≤ 140737488351232) (hb : base < 4611686018427387904) (hi : i < 18446744073709551616) (w : World) (hE : Ents w a L) :
 Calls Tryz.prog 69 #[.agg #[.int .u64 base, .int .u64 bt, .string snap, .slice a n c], .int .u64 i] w fun e w' => e = .returned (.tuple #[.int .u64 (tAt base bt L i).1, .bool (tAt base bt L i).2]) ∧ Below w.heap.size w w' := by
 by_cases h0 : i = base
 · subst h0
   rw [tAt_base]
   clear hE hn
   go_enter Tryz.func69, Tryz.ntmps69
   go_wp2_with fail
   go_ret2
   exact ⟨rfl, by go_grown⟩
 by_cases h1 : i < base
 · rw [tAt_low bt L h1]
   clear hE hn
   have e : IntKind.u64.wrap ((i : Int) - (base : Int)) = (i : Int) - (base : Int) + 18446744073709551616 := by
    simp [IntKind.wrap, IntKind.bits, IntKind.signed]; omega
   have g0 : ((i : Int) - (base : Int) + 18446744073709551616 == 0) = false := by simp; omega
   have g1 : ¬ (i : Int) - (base : Int) + 18446744073709551616 ≤ (n : Int) := by omega
   go_enter Tryz.func69, Tryz.ntmps69
   go_wp2_with fail
   go_ret2
   exact ⟨rfl, by go_grown⟩
 have g0 : ((i : Int) - (base : Int) == 0) = false := by simp; omega
 by_cases h2 : base + n < i
 · rw [tAt_hi bt L (by omega) (by omega)]
   clear hE hn
   have g1 : ¬ (i : Int) - (base : Int) ≤ (n : Int) := by omega
   have g2 : (base : Int) ≤ (i : Int) := by omega
   go_enter Tryz.func69, Tryz.ntmps69
   go_wp2_with fail
   go_ret2
   exact ⟨rfl, by go_grown⟩
 · obtain ⟨k, hk⟩ : ∃ k, i = base + k + 1 := ⟨i - base - 1, by omega⟩
   obtain ⟨x, hx⟩ : ∃ x, L[k]? = some x := ⟨_, List.getElem?_eq_getElem (by omega)⟩
   rw [tAt_in bt hk hx]
   obtain ⟨I, hI⟩ : ∃ I : Int, I = (i : Int) := ⟨_, rfl⟩
   rw [← hI]
   have hE0 := hE.later (w' := w.alloc (.cells #[.int .u64 base, .int .u64 bt, .string snap, .slice a n c] 28)) ((Below.refl _ _).alloc (Nat.le_refl _) _)
   obtain ⟨b, off, rfl, hlt, p0, p1⟩ := hE0 _ x hx
   have hkn : k < n := by have := (List.getElem?_eq_some_iff.1 hx).1; omega
   have e1 : IntKind.u64.wrap (I - (base : Int)) = (k : Int) + 1 := by rw [IntWalk.u64_in _ (by omega)]; omega
   have e2 : I - (base : Int) = (k : Int) + 1 := by omega
   have HI := hI_ hI
   have HK := hI_ hk
   clear hI hk hi
   have g0 : ((k : Int) + 1 == 0) = false := by simp; omega
   have g1 : (k : Int) + 1 ≤ (n : Int) := by omega
   have HX := hI_ hx
   clear hx hE hE0 hn h0 h1 h2
   go_enter Tryz.func69, Tryz.ntmps69
   go_wp2_with fail
   go_ret2
   exact ⟨rfl, by go_grown⟩
theorem rTermAt_any (base bt n c i : Nat) (snap : ByteArray) (a : Option Addr) (L : List En) (hn : L.length = n) (hl : n ≤ 140737488351232) (hb : base < 4611686018427387904) (hi : i < 18446744073709551616) (w : World) (hE : Ents w a L) :
 Calls Tryz.prog 18 #[.agg #[.int .u64 base, .int .u64 bt, .string snap, .slice a n c], .int .u64 i] w fun e w' => e = .returned (.tuple #[.int .u64 (tAt base bt L i).1, .bool (tAt base bt L i).2]) ∧ Below w.heap.size w w' := by
 by_cases h0 : i = base
 · subst h0
   rw [tAt_base]
   clear hE hn
   go_enter Tryz.func18, Tryz.ntmps18
   go_wp2_with fail
   go_ret2
   exact ⟨rfl, by go_grown⟩
 have g0 : ((i : Int) == (base : Int)) = false := by simp; omega
 by_cases h1 : i < base
 · rw [tAt_low bt L h1]
   have g1 : (i : Int) < (base : Int) := by omega
   clear hE hn
   go_enter Tryz.func18, Tryz.ntmps18
   go_wp2_with fail
   go_ret2
   exact ⟨rfl, by go_grown⟩
 have g1 : ¬ (i : Int) < (base : Int) := by omega
 have g3 : (base : Int) ≤ (i : Int) := by omega
 by_cases h2 : base + n < i
 · rw [tAt_hi bt L (by omega) (by omega)]
   clear hE hn
   have g2 : (n : Int) < (i : Int) - (base : Int) := by omega
   go_enter Tryz.func18, Tryz.ntmps18
   go_wp2_with fail
   go_ret2
   exact ⟨rfl, by go_grown⟩
 · obtain ⟨k, hk⟩ : ∃ k, i = base + k + 1 := ⟨i - base - 1, by omega⟩
   obtain ⟨x, hx⟩ : ∃ x, L[k]? = some x := ⟨_, List.getElem?_eq_getElem (by omega)⟩
   rw [tAt_in bt hk hx]
   obtain ⟨I, hI⟩ : ∃ I : Int, I = (i : Int) := ⟨_, rfl⟩
   rw [← hI] at g0 g1 g3 ⊢
   have hE0 := hE.later (w' := w.alloc (.cells #[.int .u64 base, .int .u64 bt, .string snap, .slice a n c] 28)) ((Below.refl _ _).alloc (Nat.le_refl _) _)
   obtain ⟨b, off, rfl, hlt, p0, p1⟩ := hE0 _ x hx
   have hkn : k < n := by have := (List.getElem?_eq_some_iff.1 hx).1; omega
   have e1 : IntKind.u64.wrap (I - (base : Int)) = (k : Int) + 1 := by rw [IntWalk.u64_in _ (by omega)]; omega
   have e2 : I - (base : Int) = (k : Int) + 1 := by omega
   have g2 : ¬ (n : Int) < (k : Int) + 1 := by omega
   have HI := hI_ hI
   have HK := hI_ hk
   clear hI hk hi
   have HX := hI_ hx
   clear hx hE hE0 hn h0 h1 h2
   go_enter Tryz.func18, Tryz.ntmps18
   go_wp2_with fail
   go_ret2
   exact ⟨rfl, by go_grown⟩
def hasB (base bt : Nat) (L : List En) (i term : Nat) : Bool := (tAt base bt L i).2 && decide ((tAt base bt L i).1 = term)
theorem pHas_any (base bt n c i term : Nat) (snap : ByteArray) (a : Option Addr) (L : List En) (hn : L.length = n) (hl : n ≤ 140737488351232) (hb : base < 4611686018427387904) (hi : i < 18446744073709551616) (w : World) (hE : Ents w a L) :
 Calls Tryz.prog 144 #[.agg #[.int .u64 base, .int .u64 bt, .string snap, .slice a n c], .int .u64 i, .int .u64 term] w fun e w' => e = .returned (.bool (hasB base bt L i term)) ∧ Below w.heap.size w w' := by
 have B0 : Below w.heap.size w (w.alloc (.cells #[.int .u64 base, .int .u64 bt, .string snap, .slice a n c] 28)) := (Below.refl _ _).alloc (Nat.le_refl _) _
 have hE0 := hE.later B0
 have HN := hI_ hn
 clear hn hE
 unfold hasB
 obtain ⟨p, hp⟩ : ∃ p, tAt base bt L i = p := ⟨_, rfl⟩
 rw [hp]
 have HP := hI_ hp
 clear hp
 obtain ⟨t, b⟩ := p
 go_enter Tryz.func144, Tryz.ntmps144
 go_wp2_with fail
 refine (pTermAt_any base bt n c i snap a L HN.out hl hb hi _ hE0).mono ?_
 rintro e w1 ⟨rfl, hb1⟩
 have B1 := B0.trans (hb1.mono B0.size)
 clear hE0 B0 hb1
 rw [HP.out]
 cases b
 · go_wp2_with fail
   go_ret
   exact ⟨by simp, B1⟩
 · by_cases ht : t = term
   · subst ht
     go_wp2_with fail
     go_ret
     exact ⟨by simp, B1⟩
   · have g : ((t : Int) == (term : Int)) = false := by simp; omega
     go_wp2_with fail
     go_ret
     exact ⟨by simp [ht], B1⟩

theorem empty_of {d : ByteArray} (h : d.size = 0) : d = ⟨#[]⟩ := by
 apply ByteArray.ext; exact Array.eq_empty_of_size_eq_zero h
theorem nonempty_of {d : ByteArray} (h : ¬ d.size = 0) : d.toList.isEmpty = false ∧ (d.toList == []) = false ∧ ¬ d.toList = [] := by
 have e : ¬ d.toList = [] := by
  intro e; apply h; rw [ByteArray.toList_eq] at e
  have := congrArg List.length e; simpa using this
 refine ⟨by simpa using e, by simpa using e, e⟩

theorem refSameLog_eq (a1 a2 : Option Addr) (n c1 c2 base bt : Nat) (snap : ByteArray) (L : List En) (hn : L.length = n) (hl : n ≤ 140737488351232) (w : World) (h1 : Ents w a1 L) (h2 : Ents w a2 L) :
 Calls Tryz.prog 95 #[.agg #[.int .u64 base, .int .u64 bt, .string snap, .slice a1 n c1], .agg #[.int .u64 base, .int .u64 bt, .string snap, .slice a2 n c2]] w fun e w' => e = .returned (.bool true) ∧ Below w.heap.size w w' := by
 have HN := hI_ hn; clear hn
 go_enter Tryz.func95, Tryz.ntmps95
 go_wp2_with fail
 generalize hW : ((w.alloc (.cells #[.int .u64 base, .int .u64 bt, .string snap, .slice a1 n c1] 28)).alloc (.cells #[.int .u64 base, .int .u64 bt, .string snap, .slice a2 n c2] 28)) = W
 have hB : Below w.heap.size w W := by subst hW; go_grown
 have x3 : W.cell? ⟨w.heap.size, 3, none⟩ = some (.slice a1 n c1) := by subst hW; simp [go_sem]
 have y3 : W.cell? ⟨w.heap.size + 1, 3, none⟩ = some (.slice a2 n c2) := by subst hW; simp [go_sem]
 have hz : w.heap.size + 1 < W.heap.size := by subst hW; simp
 have g1 := h1.later hB
 have g2 := h2.later hB
 clear hW h1 h2
 go_loopw [5] (fun i wr => ∃ k : Nat, k ≤ n ∧ i = .int .i64 k ∧ Below W.heap.size W wr) (fun i _ => n - (intOf i).toNat)
 case atStart => exact ⟨0, Nat.zero_le _, rfl, Below.refl _ _⟩
 case round =>
  obtain ⟨k, hk, rfl, B⟩ := hrel
  have X3 := (B.cell (p := ⟨w.heap.size, 3, none⟩) (by show w.heap.size < _; omega)).trans x3
  have Y3 := (B.cell (p := ⟨w.heap.size + 1, 3, none⟩) hz).trans y3
  by_cases hlt : k < n
  · have hkl : k < L.length := by have := HN.out; omega
    obtain ⟨b, off, rfl, _, p0, p1⟩ := (g1.later B) k _ (List.getElem?_eq_getElem hkl)
    obtain ⟨b2, off2, rfl, _, q0, q1⟩ := (g2.later B) k _ (List.getElem?_eq_getElem hkl)
    obtain ⟨x, hx⟩ : ∃ x, L[k] = x := ⟨_, rfl⟩
    rw [hx] at p0 p1 q0 q1
    have HX := hI_ hx; clear hx
    have i0 : (0 : Int) ≤ (k : Int) := by omega
    have i1 : (k : Int) < (n : Int) := by omega
    clear x3 y3
    go_wp2_with fail
    go_quiet (fail)
    go_wp2_with fail
    go_roundw
    case rel => exact ⟨k + 1, by omega, by go_num, below_drewN B _⟩
    case measure => simp [intOf]; omega
  · go_wp2_with fail
    go_ret
    exact ⟨rfl, hB.trans (B.mono hB.size)⟩
theorem refSame_eq (a1 a2 : Option Addr) (n c1 c2 term vote base bt : Nat) (snap : ByteArray) (L : List En) (hn : L.length = n) (hl : n ≤ 140737488351232) (w : World) (h1 : Ents w a1 L) (h2 : Ents w a2 L) :
 Calls Tryz.prog 44 #[.agg #[.int .u64 term, .int .u64 vote, .int .u64 base, .int .u64 bt, .string snap, .slice a1 n c1], .agg #[.int .u64 term, .int .u64 vote, .int .u64 base, .int .u64 bt, .string snap, .slice a2 n c2]] w fun e w' => e = .returned (.bool true) ∧ Below w.heap.size w w' := by
 have HN := hI_ hn; clear hn
 go_enter Tryz.func44, Tryz.ntmps44
 go_wp2_with fail
 have hB : Below w.heap.size w ((w.alloc (.cells #[.int .u64 term, .int .u64 vote, .int .u64 base, .int .u64 bt, .string snap, .slice a1 n c1] 30)).alloc (.cells #[.int .u64 term, .int .u64 vote, .int .u64 base, .int .u64 bt, .string snap, .slice a2 n c2] 30)) := by go_grown
 refine (refSameLog_eq a1 a2 n c1 c2 base bt snap L HN.out hl _ (h1.later hB) (h2.later hB)).mono ?_
 rintro e w1 ⟨rfl, hb1⟩
 have x0 : w1.cell? ⟨w.heap.size, 0, none⟩ = some (.int .u64 term) := (hb1.cell (p := ⟨w.heap.size, 0, none⟩) (by simp; omega)).trans (by simp [go_sem])
 have x1 : w1.cell? ⟨w.heap.size, 1, none⟩ = some (.int .u64 vote) := (hb1.cell (p := ⟨w.heap.size, 1, none⟩) (by simp; omega)).trans (by simp [go_sem])
 have y0 : w1.cell? ⟨w.heap.size + 1, 0, none⟩ = some (.int .u64 term) := (hb1.cell (p := ⟨w.heap.size + 1, 0, none⟩) (by simp)).trans (by simp [go_sem])
 have y1 : w1.cell? ⟨w.heap.size + 1, 1, none⟩ = some (.int .u64 vote) := (hb1.cell (p := ⟨w.heap.size + 1, 1, none⟩) (by simp)).trans (by simp [go_sem])
 have B1 := hB.trans (hb1.mono hB.size)
 clear hb1 hB
 go_wp2_with fail
 go_ret
 exact ⟨rfl, B1⟩

def Pc (a : Option Addr) (L : List En) (a' : Option Addr) (M : List En) : Prop := (∀ w0, Ents w0 a L → Ents w0 a' M) ∧ (0 < M.length → 0 < L.length ∧ ∀ q, a' = some q → ∃ q0, a = some q0 ∧ q.block = q0.block)
def PcP (w : World) (a : Option Addr) (L M : List En) (e : Ending) (w' : World) : Prop := ∃ a', e = .returned (.slice a' M.length M.length) ∧ Pc a L a' M ∧ Below w.heap.size w w'
theorem pBehind_any (base bt n c i : Nat) (snap : ByteArray) (a : Option Addr) (L : List En) (hn : L.length = n) (hl : n ≤ 140737488351232) (hc : n ≤ c) (_ : c ≤ maxLen) (hb : base < 4611686018427387904) (hi : i < 18446744073709551616) (h0 : base ≤ i) (w : World) (hE : Ents w a L) :
 Calls Tryz.prog 123 #[.agg #[.int .u64 base, .int .u64 bt, .string snap, .slice a n c], .int .u64 i] w (PcP w a L (L.drop (i - base))) := by
 obtain ⟨k, hk⟩ : ∃ k, i - base = k := ⟨_, rfl⟩
 rw [hk]
 have e1 : IntKind.u64.wrap ((i : Int) - (base : Int)) = (k : Int) := by rw [IntWalk.u64_in _ (by omega)]; omega
 have hkk : i = base + k := by omega
 clear h0
 by_cases h1 : n ≤ k
 · have hf : ∀ w', Below w.heap.size w w' → PcP w a L (L.drop k) (.returned (.slice none 0 0)) w' := fun w' hB => by
    rw [List.drop_eq_nil_of_le (by omega)]
    exact ⟨none, rfl, ⟨fun _ _ => Ents.nil _ _, fun h => absurd h (by simp)⟩, hB⟩
   have HF := hI_ hf
   clear hf hE hn hk hkk
   have g1 : (n : Int) ≤ (k : Int) := by omega
   have e2 : IntKind.u64.wrap (n : Int) = (n : Int) := IntWalk.u64_in _ (by omega)
   go_enter Tryz.func123, Tryz.ntmps123
   go_wp2_with fail
   go_quiet (fail)
   go_wp2_with fail
   go_ret
   exact HF.out _ (below_drewN (by go_grown) _)
 · obtain ⟨b, off, rfl, hlt⟩ := hE.addr (by omega)
   have hf : ∀ w', Below w.heap.size w w' → PcP w (some ⟨b, off, none⟩) L (L.drop k) (.returned (.slice (some ⟨b, off + k * 2, none⟩) (n - k) (n - k))) w' := fun w' hB => by
    have hlen : (L.drop k).length = n - k := by rw [List.length_drop]; omega
    exact ⟨_, by rw [hlen], ⟨fun w0 h => h.drop k (fun _ => rfl), fun h => ⟨by rw [hlen] at h; omega, fun q e => ⟨_, rfl, by cases e; rfl⟩⟩⟩, hB⟩
   have HF := hI_ hf
   clear hf hE hn hk hkk
   have g1 : ¬ (n : Int) ≤ (k : Int) := by omega
   have e2 : IntKind.u64.wrap (n : Int) = (n : Int) := IntWalk.u64_in _ (by omega)
   have i0 : (0 : Int) ≤ (k : Int) := by omega
   have i1 : (k : Int) ≤ (n : Int) := by omega
   have i2 : (n : Int) ≤ (c : Int) := by omega
   go_enter Tryz.func123, Tryz.ntmps123
   go_wp2_with fail
   go_quiet (fail)
   go_wp2_with fail
   go_ret
   exact HF.out _ (below_drewN (by go_grown) _)
def fromL (base : Nat) (L : List En) (i : Nat) (most : Int) : List En := if i ≤ base then [] else (L.drop (i - 1 - base)).take most.toNat
def FrP (w : World) (M : List En) (b : Bool) (e : Ending) (w' : World) : Prop := ∃ a' c', e = .returned (.tuple #[.slice a' M.length c', .bool b]) ∧ Ents w' a' M ∧ Below w.heap.size w w'
theorem pFrom_any (base bt n c i : Nat) (most : Int) (snap : ByteArray) (a : Option Addr) (L : List En) (hn : L.length = n) (hl : n ≤ 140737488351232) (hc : n ≤ c) (hcm : c ≤ maxLen) (hb : base < 4611686018427387904) (hi : i < 18446744073709551616) (w : World) (hE : Ents w a L) :
 Calls Tryz.prog 70 #[.agg #[.int .u64 base, .int .u64 bt, .string snap, .slice a n c], .int .u64 i, .int .i64 most] w (FrP w (fromL base L i most) (decide (base < i))) := by
 by_cases h0 : i ≤ base
 · have hf : ∀ w', Below w.heap.size w w' → FrP w (fromL base L i most) (decide (base < i)) (.returned (.tuple #[.slice none 0 0, .bool false])) w' := fun w' hB => by
    unfold fromL; rw [if_pos h0, decide_eq_false (by omega)]; exact ⟨none, 0, rfl, Ents.nil _ _, hB⟩
   have HF := hI_ hf
   clear hf hE hn
   have g : (i : Int) ≤ (base : Int) := by omega
   go_enter Tryz.func70, Tryz.ntmps70
   go_wp2_with fail
   go_ret2
   exact HF.out _ (by go_grown)
 · obtain ⟨M, hM⟩ : ∃ M, L.drop (i - 1 - base) = M := ⟨_, rfl⟩
   have hml : M.length ≤ n := by rw [← hM, List.length_drop]; omega
   obtain ⟨m, hm⟩ : ∃ m, M.length = m := ⟨_, rfl⟩
   rw [hm] at hml
   have hf : ∀ w' a' q, q = min m most.toNat → Ents w' a' M → Below w.heap.size w w' → FrP w (fromL base L i most) (decide (base < i)) (.returned (.tuple #[.slice a' q q, .bool true])) w' := fun w' a' q hq hE' hB => by
    unfold fromL; rw [if_neg h0, decide_eq_true (by omega), hM]
    have hlen : (M.take most.toNat).length = q := by rw [List.length_take]; omega
    exact ⟨a', q, by rw [hlen], hE'.take _, hB⟩
   have HF := hI_ hf
   have HN := hI_ hn
   have g : ¬ (i : Int) ≤ (base : Int) := by omega
   have B0 : Below w.heap.size w (w.alloc (.cells #[.int .u64 base, .int .u64 bt, .string snap, .slice a n c] 28)) := (Below.refl _ _).alloc (Nat.le_refl _) _
   have hE0 := hE.later B0
   obtain ⟨i1, hi1⟩ : ∃ i1, i - 1 = i1 := ⟨_, rfl⟩
   have e1 : (i : Int) - 1 = (i1 : Int) := by omega
   rw [hi1] at hM
   have HM := hI_ hM
   have HL := hI_ hm
   have hi1' : base ≤ i1 := by omega
   have hi2' : i1 < 18446744073709551616 := by omega
   clear hf hM hn hE hm hi1 h0
   go_enter Tryz.func70, Tryz.ntmps70
   go_wp2_with fail
   refine (pBehind_any base bt n c i1 snap a L HN.out hl hc hcm hb hi2' hi1' _ hE0).mono ?_
   rintro e w1 ⟨a', rfl, hE1, hb1⟩
   have B1 := B0.trans (hb1.mono B0.size)
   have hE2 := (hE1.1 _ hE0).later hb1
   rw [HM.out] at hE2 ⊢
   rw [HL.out]
   have HE := hI_ hE2
   have HB := hI_ B1
   clear hE0 B0 hb1 hE1 hE2 B1
   have i0 : (m : Int) ≤ 9223372036854775807 := by omega
   go_wp2_with fail
   all_goals
    go_ret2
    refine HF.out _ _ _ ?_ HE.out HB.out
    omega

theorem enOne (x : En) : ∀ u ∈ enCells x, u.oneCell' = true := by
 intro u hu; simp only [enCells, List.mem_cons, List.not_mem_nil, or_false] at hu; rcases hu with rfl | rfl <;> rfl
theorem owns_monoE' {w : World} {B B' : Nat} {e : TypeId} {size : Nat} {v : Value} {n : Nat} {xs : List Value} (h : w.ownsRow B e size v n xs) (hB : B' ≤ B) : w.ownsRow B' e size v n xs := by
 refine ⟨h.1, ?_⟩
 rcases h.2 with h2 | ⟨g, cap, cur, e1, e2, rest⟩
 · exact .inl h2
 · exact .inr ⟨g, cap, cur, e1, Nat.le_trans hB e2, rest⟩

theorem step_appE {w : World} {ops : Array Oper} {o : Oper} {a : Act} {K : Act → World → Prop} {Q : Exit → Act → World → Prop} {E : Prop} (hgd : o.guard = none) (s x : Operand) (t : TypeId)
 (ho : o.op = .call { callee := .builtin .append, args := #[s, x], argTypes := #[t, t] }) (vs vx : Value) (hs : a.eval s = vs) (hx : a.eval x = vx) (Post : Value → World → Prop)
 (hr : ∃ v' w', (Builtin.append_ #[t, t] o.type #[vs, vx]).run Tryz.prog w = .ok v' w' ∧ Post v' w') (h : ∀ v' w', Post v' w' → K (a.put o.dst v') w') :
 if Region.wanted o (yielded ops a.tmps) = true then Oper.wp Tryz.prog o a w K Q else E := by
 have hw : Region.wanted o (yielded ops a.tmps) = true := by simp [Region.wanted, hgd]
 rw [if_pos hw]
 obtain ⟨v', w', hr, hp⟩ := hr
 unfold Oper.wp execOp
 simp only [ho, resolve, invoke, builtin, Sem.run_bind, Sem.run_pure, Result.andThen_ok, List.map_toArray, List.map_cons, List.map_nil, hs, hx, hr]
 exact h v' w' hp
def CqE (B : Nat) (w : World) (v : Value) (L : List En) : Prop := (L = [] ∧ ∃ ao, v = .slice ao 0 0) ∨ w.ownsRow B 65 2 v L.length (esCells L)
theorem CqE.nil (B : Nat) (w : World) (ao : Option Addr) : CqE B w (.slice ao 0 0) [] := .inl ⟨rfl, ao, rfl⟩
theorem CqE.form {B : Nat} {w : World} {v : Value} {L : List En} (h : CqE B w v L) : ∃ a c, v = .slice a L.length c ∧ Ents w a L ∧ (0 < L.length → ∀ q, a = some q → B ≤ q.block) ∧ L.length ≤ c ∧ c ≤ maxLen := by
 rcases h with ⟨rfl, ao, rfl⟩ | h
 · exact ⟨ao, 0, rfl, Ents.nil _ _, fun h => by simp at h, Nat.le_refl _, by decide⟩
 · obtain ⟨a, c, e, hE, hf⟩ := ents_of_owns h
   refine ⟨a, c, e, hE, fun _ => hf, ?_⟩
   rcases h.2 with ⟨e2, h0⟩ | ⟨g, cap, cur, e2, _, _, hn, hm, _⟩
   · injection e2.symm.trans e with _ _ h3
     subst h3; exact ⟨by omega, by decide⟩
   · injection e2.symm.trans e with _ _ h3
     subst h3; exact ⟨hn, hm⟩
theorem app_row (B : Nat) (w : World) (ty : TypeId) (v : Value) (L : List En) (h : CqE B w v L) (a : Option Addr) (m c : Nat) (M : List En) (hm : M.length = m) (hM : Ents w a M) (hl : (L.length + m) * 24 ≤ 140737488355328) (hB : B ≤ w.heap.size) :
 ∃ v' w', (Builtin.append_ #[26, 26] ty #[v, .slice a m c]).run Tryz.prog w = .ok v' w' ∧ (CqE B w' v' (L ++ M) ∧ Below B w w') := by
 obtain ⟨i0, hi, hz0, hz1', hz2'⟩ := info_parts infoEntry
 rcases Nat.eq_zero_or_pos m with h0 | h0
 · subst h0
   have hM0 : M = [] := List.length_eq_zero_iff.1 hm
   subst hM0
   rw [List.append_nil]
   have hs : Src Tryz.prog i0.size 26 (.slice a 0 c) 0 [] w := by
    cases a with
    | none => exact Src.ofNil w Tryz.underlying26 c
    | some p => exact Src.ofSlice w Tryz.underlying26 p 0 c [] (by simp) (by simp) (by simp)
   have hv : ∃ ao n cap, v = .slice ao n cap ∧ n ≤ cap := by
    rcases h with ⟨_, ao, rfl⟩ | h
    · exact ⟨ao, 0, 0, rfl, Nat.le_refl _⟩
    · rcases h.2 with ⟨rfl, h0⟩ | ⟨g, cap, cur, rfl, _, _, hn, _⟩
      · exact ⟨none, 0, 0, rfl, Nat.le_refl _⟩
      · exact ⟨_, _, cap, rfl, hn⟩
   obtain ⟨ao, n, cap, rfl, hle⟩ := hv
   exact ⟨_, _, run_append_nothing w _ _ ty _ i0 Tryz.underlying26 hi ao n cap hle _ hs, h, Below.refl _ _⟩
 · obtain ⟨b1, off, rfl, hb1⟩ := hM.addr (by omega)
   have hrow := ents_row hM
   have hnews : ∀ j u, (esCells M)[j]? = some u → w.cell? ((⟨b1, off, none⟩ : Addr).add j) = some u := fun j u hj => by rw [addAnyE']; exact hrow j u hj
   have hlen : (esCells M).length = m * 2 := by rw [esCells_len, hm]
   rcases h with ⟨rfl, ao, rfl⟩ | h
   · cases ao with
     | none =>
      obtain ⟨v', w', hr, hown, hg, _⟩ := run_append_own (P := Tryz.prog) w B 26 ty 65 i0 _ 2 24 Tryz.underlying26 hi hz0 hz1' hz2' rfl (by decide) (.slice none 0 0) 0 [] (World.ownsRow_nil w B _ 2) ⟨b1, off, none⟩ m c (esCells M) hlen hnews (oneEs M) (by unfold maxLen; simp at hl; omega) (by simpa using hl) hB
      refine ⟨v', w', hr, .inr ?_, (Below.refl _ _).grown hg hB (by simp [Value.ownBlock])⟩
      simpa [hm] using hown
     | some b =>
      obtain ⟨v', w', hr, hown, hg⟩ := run_append_arg_grows (P := Tryz.prog) w 26 ty 65 i0 _ 2 24 Tryz.underlying26 hi hz0 hz1' hz2' rfl (by decide) b 0 0 [] (by simp) (by simp)
       ⟨b1, off, none⟩ m c (esCells M) hlen hnews (by omega) (by unfold maxLen; simp at hl; omega) (by simpa using hl)
      refine ⟨v', w', hr, .inr ?_, (Below.refl _ _).grown hg hB (by simp)⟩
      have hown' := owns_monoE' hown hB
      simpa [hm] using hown'
   · obtain ⟨v', w', hr, hown, hg, _⟩ := run_append_own (P := Tryz.prog) w B 26 ty 65 i0 _ 2 24 Tryz.underlying26 hi hz0 hz1' hz2' rfl (by decide) v L.length (esCells L) h ⟨b1, off, none⟩ m c (esCells M) hlen hnews (oneEs M) (by unfold maxLen; omega) hl hB
     refine ⟨v', w', hr, .inr ?_, (Below.refl _ _).grown hg hB (fun k e => (h.lt k e).1)⟩
     rw [List.length_append, esCells_app, hm]
     exact hown
def TyE (w : World) (g : Nat) : Prop := ∃ cur, w.heap[g]? = some (.cells cur 65 (0, 0))
theorem TyE.lt {w : World} {g : Nat} (h : TyE w g) : g < w.heap.size := by obtain ⟨cur, h⟩ := h; exact (Array.getElem?_eq_some_iff.1 h).1
theorem TyE.set {w : World} {g : Nat} (h : TyE w g) (x o : Nat) (v : Value) : TyE (w.setCell ⟨x, o, none⟩ v) g := by
 obtain ⟨cur, h⟩ := h
 by_cases hx : x = g
 · subst hx
   exact ⟨cur.setIfInBounds o v, by simp only [World.setCell, Array.getElem?_modify, h]; simp⟩
 · exact ⟨cur, by simp only [World.setCell, Array.getElem?_modify]; rw [if_neg hx]; exact h⟩
theorem TyE.later {w w' : World} {g : Nat} (h : TyE w g) (hb : Below w.heap.size w w') : TyE w' g := by
 obtain ⟨cur, h2⟩ := h
 exact ⟨cur, (hb.block g (Array.getElem?_eq_some_iff.1 h2).1).trans h2⟩
def Pl (a0 : Option Addr) (L0 : List En) (w' : World) (a : Option Addr) (L : List En) : Prop := 0 < L.length → ∀ q, a = some q → TyE w' q.block ∨ (0 < L0.length ∧ ∃ q0, a0 = some q0 ∧ q.block = q0.block)
theorem Pl.new {a0 a : Option Addr} {L0 L : List En} {w' : World} (h : ∀ q, a = some q → TyE w' q.block) : Pl a0 L0 w' a L := fun _ q e => .inl (h q e)
def NewP (w : World) (M : List En) (v' : Value) (w' : World) : Prop := ∃ g cap, v' = .slice (some ⟨g, 0, none⟩) M.length cap ∧ w.heap.size ≤ g ∧ M.length ≤ cap ∧ cap ≤ maxLen ∧ Ents w' (some ⟨g, 0, none⟩) M ∧ TyE w' g ∧ Below w.heap.size w w'
theorem run_grows_wide (w : World) (t ty e : TypeId) (i : TypeInfo) (z : Value) (size bytes : Nat) (ht : Tryz.prog.underlying t = some (.slice e)) (hi : Tryz.prog.info? e = some i) (hz : i.zero = some z)
 (hsize : i.size = size) (hby : i.bytes = bytes) (hzs : z.cells.size = size) (b : Addr) (n cap : Nat) (olds : List Value) (hlo : olds.length = n * size) (holds : ∀ j u, olds[j]? = some u → w.cell? (b.add j) = some u)
 (a : Addr) (m c : Nat) (news : List Value) (hl : news.length = m * size) (hnews : ∀ j u, news[j]? = some u → w.cell? (a.add j) = some u) (hg : cap < n + m) (h63 : n + m ≤ maxLen) (hbytes : ((n + m) + (n + m) / 4 + 192) * bytes ≤ 281474976710656) :
 ∃ v' w', (Builtin.append_ #[t, t] ty #[.slice (some b) n cap, .slice (some a) m c]).run Tryz.prog w = .ok v' w' ∧ w'.ownsRow w.heap.size e size v' (n + m) (olds ++ news) ∧ w.grownBy w' none := by
 subst hsize hby
 have h2 : ((n + m : Nat) : Int) ≤ 9223372036854775807 := by simp only [maxLen] at h63; omega
 have hr := run_append_grow (P := Tryz.prog) w t ty e i z ht hi hz b n cap olds hlo holds a m c news hl hnews hg h2 (growslice_fits_wide hg hbytes)
 have hge := grownCap_ge w (n + m) cap e
 refine ⟨_, _, hr, ⟨by rw [List.length_append, hlo, hl, Nat.add_mul], .inr ⟨w.heap.size, _, _, rfl, Nat.le_refl _, heap_alloc_new w.drew _, hge, grownCap_le_maxLen w (n + m) cap e h63, ?_, ?_⟩⟩, ⟨rfl, rfl, rfl, by simp, fun k hk _ => (by first | exact heap_alloc_old w.drew _ hk | exact Go.heap_alloc_old w.drew _ k hk)⟩⟩
 · simp only [Array.size_append, List.size_toArray, size_zeroCells, hzs, hlo, hl, ← Nat.add_mul]
   congr 1; omega
 · have hlen : (olds ++ news).length = (n + m) * i.size := by rw [List.length_append, hlo, hl, Nat.add_mul]
   simp only [Array.toList_append, List.append_assoc]
   rw [← List.append_assoc, ← hlen]
   exact List.take_left
theorem app_full (w : World) (ty : TypeId) (a : Option Addr) (n : Nat) (L : List En) (hn : L.length = n) (hE : Ents w a L) (a2 : Option Addr) (m c : Nat) (M : List En) (hm : M.length = m) (hM : Ents w a2 M) (h0 : 0 < m) (hl : ((n + m) + (n + m) / 4 + 192) * 24 ≤ 281474976710656) :
 ∃ v' w', (Builtin.append_ #[26, 26] ty #[.slice a n n, .slice a2 m c]).run Tryz.prog w = .ok v' w' ∧ NewP w (L ++ M) v' w' := by
 obtain ⟨i0, hi, hz0, hz1', hz2'⟩ := info_parts infoEntry
 have hown : ∀ v' w', w'.ownsRow w.heap.size 65 2 v' (n + m) (esCells L ++ esCells M) → w.grownBy w' none → NewP w (L ++ M) v' w' := fun v' w' ho hg => by
  have ho' : w'.ownsRow w.heap.size 65 2 v' (L ++ M).length (esCells (L ++ M)) := by rw [List.length_append, esCells_app, hn, hm]; exact ho
  have hlen : (L ++ M).length = n + m := by rw [List.length_append, hn, hm]
  obtain ⟨a', c', rfl, hE', _⟩ := ents_of_owns ho'
  rcases ho'.2 with ⟨_, h⟩ | ⟨g, cap, cur, e, hB, hg', hnc, hcm, _⟩
  · rw [hlen] at h; omega
  · cases e
    exact ⟨g, _, rfl, hB, hnc, hcm, hE', ⟨_, hg'⟩, (Below.refl _ _).grown hg (Nat.le_refl _) (by simp)⟩
 obtain ⟨b1, off, rfl, hb1⟩ := hM.addr (by omega)
 have hrow := ents_row hM
 have hnews : ∀ j u, (esCells M)[j]? = some u → w.cell? ((⟨b1, off, none⟩ : Addr).add j) = some u := fun j u hj => by rw [addAnyE']; exact hrow j u hj
 have hlen : (esCells M).length = m * 2 := by rw [esCells_len, hm]
 cases a with
 | none =>
  have hn0 : n = 0 := by
   rcases Nat.eq_zero_or_pos n with h | h
   · exact h
   · obtain ⟨b, off, e, _⟩ := hE.addr (by omega); cases e
  subst hn0
  have hL0 : L = [] := List.length_eq_zero_iff.1 hn
  subst hL0
  obtain ⟨v', w', hr, ho, hg, _⟩ := run_append_own_wide (P := Tryz.prog) w w.heap.size 26 ty 65 i0 _ 2 24 Tryz.underlying26 hi hz0 hz1' hz2' rfl (by decide) (.slice none 0 0) 0 [] (World.ownsRow_nil w _ _ 2) ⟨b1, off, none⟩ m c (esCells M) hlen hnews (oneEs M) (by unfold maxLen; omega) hl (Nat.le_refl _)
  exact ⟨v', w', hr, hown _ _ (by simpa [esCells] using ho) hg⟩
 | some b =>
  have holds : ∀ j u, (esCells L)[j]? = some u → w.cell? (b.add j) = some u := fun j u hj => by
   have hj2 := (List.getElem?_eq_some_iff.1 hj).1
   rw [esCells_len] at hj2
   obtain ⟨b2, off2, e, _⟩ := hE.addr (by omega)
   cases e
   rw [addAnyE']; exact ents_row hE j u hj
  obtain ⟨v', w', hr, ho, hg⟩ := run_grows_wide w 26 ty 65 i0 _ 2 24 Tryz.underlying26 hi hz0 hz1' hz2' rfl b n n (esCells L) (by rw [esCells_len, hn]) holds
   ⟨b1, off, none⟩ m c (esCells M) hlen hnews (by omega) (by unfold maxLen; omega) hl
  exact ⟨v', w', hr, hown _ _ ho hg⟩
theorem ents_one (w : World) (m : Nat) (hm : m = w.heap.size) (t : Nat) (d : ByteArray) (T : TypeId) : Ents (w.alloc (.cells #[.int .u64 t, .string d] T)) (some ⟨m, 0, none⟩) [⟨t, d⟩] := fun j x hx => by
 have hj := (List.getElem?_eq_some_iff.1 hx).1
 have h0 : j = 0 := by simpa using hj
 subst h0 hm
 simp at hx
 subst hx
 exact ⟨_, 0, rfl, by simp, by simp [go_sem], by simp [go_sem]⟩
end Go.Proofs.YtdcpiaoadbbdoaaGreatDoor
