/- Logs: the entries behind an index, the entries from an index on; whether two lists, two logs are the same. -/
import Derived.Test.YtkifgjgjhjhknaaLw
namespace Go.Proofs.Ytkifgjgjhjhknaa
open Go.RowKit

/-- What is handed back as a piece of a list that was there: entries, and no room behind them. -/
def PcP (w : World) (a : Option Addr) (L M : List En) (e : Ending) (w' : World) : Prop := ∃ a', e = .returned (.slice a' M.length M.length) ∧ (∀ w0, Ents w0 a L → Ents w0 a' M) ∧ Below w.heap.size w w'
set_option maxHeartbeats 1000000 in
theorem pBehind_any (base bt n c i : Nat) (snap : ByteArray) (a : Option Addr) (L : List En) (hn : L.length = n) (hl : n ≤ 140737488351232) (hc : n ≤ c) (_ : c ≤ maxLen) (hb : base < 4611686018427387904) (hi : i < 18446744073709551616) (h0 : base ≤ i) (w : World) (hE : Ents w a L) :
    Calls Try.prog 33 #[.agg #[.int .u64 base, .int .u64 bt, .string snap, .slice a n c], .int .u64 i] w (PcP w a L (L.drop (i - base))) := by
  obtain ⟨k, hk⟩ : ∃ k, i - base = k := ⟨_, rfl⟩
  rw [hk]
  have e1 : IntKind.u64.wrap ((i : Int) - (base : Int)) = (k : Int) := by rw [IntWalk.u64_in _ (by omega)]; omega
  have hkk : i = base + k := by omega
  clear h0
  by_cases h1 : n ≤ k
  · have hf : ∀ w', Below w.heap.size w w' → PcP w a L (L.drop k) (.returned (.slice none 0 0)) w' := fun w' hB => by
      rw [List.drop_eq_nil_of_le (by omega)]
      exact ⟨none, rfl, fun _ _ => Ents.nil _ _, hB⟩
    have HF := Lib.hid hf
    clear hf hE hn hk hkk
    have g1 : (n : Int) ≤ (k : Int) := by omega
    have e2 : IntKind.u64.wrap (n : Int) = (n : Int) := IntWalk.u64_in _ (by omega)
    go_enter Try.func33, Try.ntmps33
    go_wp2_with fail
    go_quiet (fail)
    go_wp2_with fail
    go_ret
    exact HF.out _ (below_drewN (by go_grown) _)
  · obtain ⟨b, off, rfl, hlt⟩ := hE.addr (by omega)
    have hf : ∀ w', Below w.heap.size w w' → PcP w (some ⟨b, off, none⟩) L (L.drop k) (.returned (.slice (some ⟨b, off + k * 2, none⟩) (n - k) (n - k))) w' := fun w' hB => by
      have hlen : (L.drop k).length = n - k := by rw [List.length_drop]; omega
      exact ⟨_, by rw [hlen], fun w0 h => h.drop k (fun _ => rfl), hB⟩
    have HF := Lib.hid hf
    clear hf hE hn hk hkk
    have g1 : ¬ (n : Int) ≤ (k : Int) := by omega
    have e2 : IntKind.u64.wrap (n : Int) = (n : Int) := IntWalk.u64_in _ (by omega)
    have i0 : (0 : Int) ≤ (k : Int) := by omega
    have i1 : (k : Int) ≤ (n : Int) := by omega
    have i2 : (n : Int) ≤ (c : Int) := by omega
    go_enter Try.func33, Try.ntmps33
    go_wp2_with fail
    go_quiet (fail)
    go_wp2_with fail
    go_ret
    exact HF.out _ (below_drewN (by go_grown) _)
/-- The entries from an index on. -/
def fromL (base : Nat) (L : List En) (i : Nat) (most : Int) : List En := if i ≤ base then [] else (L.drop (i - 1 - base)).take most.toNat
def FrP (w : World) (M : List En) (b : Bool) (e : Ending) (w' : World) : Prop := ∃ a' c', e = .returned (.tuple #[.slice a' M.length c', .bool b]) ∧ Ents w' a' M ∧ Below w.heap.size w w'
set_option maxHeartbeats 1000000 in
theorem pFrom_any (base bt n c i : Nat) (most : Int) (snap : ByteArray) (a : Option Addr) (L : List En) (hn : L.length = n) (hl : n ≤ 140737488351232) (hc : n ≤ c) (hcm : c ≤ maxLen) (hb : base < 4611686018427387904) (hi : i < 18446744073709551616) (w : World) (hE : Ents w a L) :
    Calls Try.prog 18 #[.agg #[.int .u64 base, .int .u64 bt, .string snap, .slice a n c], .int .u64 i, .int .i64 most] w (FrP w (fromL base L i most) (decide (base < i))) := by
  by_cases h0 : i ≤ base
  · have hf : ∀ w', Below w.heap.size w w' → FrP w (fromL base L i most) (decide (base < i)) (.returned (.tuple #[.slice none 0 0, .bool false])) w' := fun w' hB => by
      unfold fromL; rw [if_pos h0, decide_eq_false (by omega)]; exact ⟨none, 0, rfl, Ents.nil _ _, hB⟩
    have HF := Lib.hid hf
    clear hf hE hn
    have g : (i : Int) ≤ (base : Int) := by omega
    go_enter Try.func18, Try.ntmps18
    go_wp2_with fail
    go_ret2
    exact HF.out _ (by go_grown)
  · obtain ⟨M, hM⟩ : ∃ M, L.drop (i - 1 - base) = M := ⟨_, rfl⟩
    have hml : M.length ≤ n := by rw [← hM, List.length_drop]; omega
    obtain ⟨m, hm⟩ : ∃ m, M.length = m := ⟨_, rfl⟩
    rw [hm] at hml
    have hf : ∀ w' a' q, q = min m most.toNat → Ents w' a' M → Below w.heap.size w w' → FrP w (fromL base L i most) (decide (base < i)) (.returned (.tuple #[.slice a' q q, .bool true])) w' := fun w' a' q hq hE' hB => by
      unfold fromL; rw [if_neg h0, decide_eq_true (by omega), hM]
      have hlen : (M.take most.toNat).length = q := by rw [List.length_take]; omega
      exact ⟨a', q, by rw [hlen], hE'.take _, hB⟩
    have HF := Lib.hid hf
    have HN := Lib.hid hn
    have g : ¬ (i : Int) ≤ (base : Int) := by omega
    have B0 : Below w.heap.size w (w.alloc (.cells #[.int .u64 base, .int .u64 bt, .string snap, .slice a n c] 25)) := (Below.refl _ _).alloc (Nat.le_refl _) _
    have hE0 := hE.later B0
    obtain ⟨i1, hi1⟩ : ∃ i1, i - 1 = i1 := ⟨_, rfl⟩
    have e1 : (i : Int) - 1 = (i1 : Int) := by omega
    rw [hi1] at hM
    have HM := Lib.hid hM
    have HL := Lib.hid hm
    have hi1' : base ≤ i1 := by omega
    have hi2' : i1 < 18446744073709551616 := by omega
    clear hf hM hn hE hm hi1 h0
    go_enter Try.func18, Try.ntmps18
    go_wp2_with fail
    refine (pBehind_any base bt n c i1 snap a L HN.out hl hc hcm hb hi2' hi1' _ hE0).mono ?_
    rintro e w1 ⟨a', rfl, hE1, hb1⟩
    have B1 := B0.trans (hb1.mono B0.size)
    have hE2 := (hE1 _ hE0).later hb1
    rw [HM.out] at hE2 ⊢
    rw [HL.out]
    have HE := Lib.hid hE2
    have HB := Lib.hid B1
    clear hE0 B0 hb1 hE1 hE2 B1
    have i0 : (m : Int) ≤ 9223372036854775807 := by omega
    go_wp2_with fail
    all_goals
      go_ret2
      refine HF.out _ _ _ ?_ HE.out HB.out
      omega
set_option maxHeartbeats 1000000 in
theorem rEntries_eq (a1 a2 : Option Addr) (n c1 c2 : Nat) (L : List En) (hn : L.length = n) (hl : n ≤ 140737488351232) (w : World) (h1 : Ents w a1 L) (h2 : Ents w a2 L) :
    Calls Try.prog 20 #[.slice a1 n c1, .slice a2 n c2] w fun e w' => e = .returned (.bool true) ∧ Below w.heap.size w w' := by
  have HN := Lib.hid hn; clear hn
  go_enter Try.func20, Try.ntmps20
  go_wp2_with fail
  go_loopw [5] (fun i wr => ∃ k : Nat, k ≤ n ∧ i = .int .i64 k ∧ Below w.heap.size w wr) (fun i _ => n - (intOf i).toNat)
  case atStart => exact ⟨0, Nat.zero_le _, rfl, Below.refl _ _⟩
  case round =>
    obtain ⟨k, hk, rfl, B⟩ := hrel
    by_cases hlt : k < n
    · have hkl : k < L.length := by have := HN.out; omega
      obtain ⟨b, off, rfl, _, p0, p1⟩ := (h1.later B) k _ (List.getElem?_eq_getElem hkl)
      obtain ⟨b2, off2, rfl, _, q0, q1⟩ := (h2.later B) k _ (List.getElem?_eq_getElem hkl)
      obtain ⟨x, hx⟩ : ∃ x, L[k] = x := ⟨_, rfl⟩
      rw [hx] at p0 p1 q0 q1
      have HX := Lib.hid hx; clear hx
      have i0 : (0 : Int) ≤ (k : Int) := by omega
      have i1 : (k : Int) < (n : Int) := by omega
      go_wp2_with fail
      go_quiet (fail)
      go_wp2_with fail
      go_roundw
      case rel => exact ⟨k + 1, by omega, by go_num, below_drewN B _⟩
      case measure => simp [intOf]; omega
    · go_wp2_with fail
      go_ret
      exact ⟨rfl, B⟩
set_option maxHeartbeats 1000000 in
theorem rSame_eq (base bt n c1 c2 : Nat) (snap : ByteArray) (a1 a2 : Option Addr) (L : List En) (hn : L.length = n) (hl : n ≤ 140737488351232) (w : World) (h1 : Ents w a1 L) (h2 : Ents w a2 L) :
    Calls Try.prog 23 #[.agg #[.int .u64 base, .int .u64 bt, .string snap, .slice a1 n c1], .agg #[.int .u64 base, .int .u64 bt, .string snap, .slice a2 n c2]] w fun e w' => e = .returned (.bool true) ∧ Below w.heap.size w w' := by
  have HN := Lib.hid hn; clear hn
  go_enter Try.func23, Try.ntmps23
  go_wp2_with fail
  have L1 := ((Lb.new (w := w) rfl base bt snap (.slice a1 n c1) 25).past (.cells #[.int .u64 base, .int .u64 bt, .string snap, .slice a2 n c2] 25))
  have L2 := (Lb.new (w := w.alloc (.cells #[.int .u64 base, .int .u64 bt, .string snap, .slice a1 n c1] 25)) (x := w.heap.size + 1) (by simp) base bt snap (.slice a2 n c2) 25)
  have hB : Below w.heap.size w ((w.alloc (.cells #[.int .u64 base, .int .u64 bt, .string snap, .slice a1 n c1] 25)).alloc (.cells #[.int .u64 base, .int .u64 bt, .string snap, .slice a2 n c2] 25)) := by go_grown
  refine (rEntries_eq a1 a2 n c1 c2 L HN.out hl _ (h1.later hB) (h2.later hB)).mono ?_
  rintro e w1 ⟨rfl, hb1⟩
  obtain ⟨x0, x1, x2, x3, _, _⟩ := L1.later hb1
  obtain ⟨y0, y1, y2, y3, _, _⟩ := L2.later hb1
  have B1 := hB.trans (hb1.mono hB.size)
  clear hb1 hB L1 L2
  go_wp2_with fail
  go_ret
  exact ⟨rfl, B1⟩
end Go.Proofs.Ytkifgjgjhjhknaa
