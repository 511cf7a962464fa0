/- Who is in a list; whether lists are the same: the document's. -/
import Derived.Test.YtfidgnhinllhlaaVb
namespace Go.Proofs.Ytfidgnhinllhlaa
open Go.RowKit

/-- A transaction in a box. -/
structure TxBox (w : World) (b : Nat) (x : Tx) : Prop where
  lt : b < w.heap.size
  c0 : w.cell? ⟨b, 0, none⟩ = some (.int .u64 (x.age : Nat))
  c1 : w.cell? ⟨b, 1, none⟩ = some (.int .u64 (x.id : Nat))
theorem TxBox.later {w w' : World} {b : Nat} {x : Tx} (h : TxBox w b x) (hb : Below w.heap.size w w') : TxBox w' b x :=
  ⟨Nat.lt_of_lt_of_le h.lt hb.size, (hb.cell (p := ⟨b, 0, none⟩) h.lt).trans h.c0, (hb.cell (p := ⟨b, 1, none⟩) h.lt).trans h.c1⟩
theorem txbox {w W : World} {a i : Nat} (hW : w.alloc (.cells #[.int .u64 (a : Nat), .int .u64 (i : Nat)] 25) = W) : Below w.heap.size w W ∧ TxBox W w.heap.size ⟨a, i⟩ := by
  subst hW
  exact ⟨by go_grown, by simp, by simp [go_sem], by simp [go_sem]⟩
theorem amT_at {t : Tx} {L : List Tx} {k : Nat} {x : Tx} (hx : L[k]? = some x) : amT t (L.drop k) = (decide (x = t) || amT t (L.drop (k + 1))) := by
  obtain ⟨hk, rfl⟩ := List.getElem?_eq_some_iff.1 hx
  rw [List.drop_eq_getElem_cons hk]; rfl
theorem tx_ne {a b c d : Nat} (h : ¬ (⟨a, b⟩ : Tx) = ⟨c, d⟩) : ((a : Int) == (c : Int)) = false ∨ (a = c ∧ ((b : Int) == (d : Int)) = false) := by
  by_cases h1 : a = c
  · exact .inr ⟨h1, int_ne fun e => h (by rw [h1, e])⟩
  · exact .inl (int_ne h1)
set_option maxHeartbeats 2000000 in
theorem rAmong_any (n c : Nat) (a : Option Addr) (L : List Tx) (t : Tx) (hn : L.length = n) (hl : n ≤ 140737488351232) (w : World) (hM : Txs w a L) :
    Calls Try.prog 22 #[.slice a n c, txV t] w fun e w' => e = .returned (.bool (amT t L)) ∧ Below w.heap.size w w' := by
  obtain ⟨ta, ti⟩ := t
  obtain ⟨r, hr⟩ : ∃ r, amT ⟨ta, ti⟩ L = r := ⟨_, rfl⟩
  rw [hr]
  have HN := Lib.hid hn
  have HR := Lib.hid (show amT ⟨ta, ti⟩ (L.drop 0) = r from hr)
  obtain ⟨W, hW⟩ : ∃ W, w.alloc (.cells #[.int .u64 (ta : Nat), .int .u64 (ti : Nat)] 25) = W := ⟨_, rfl⟩
  obtain ⟨hB, hX⟩ := txbox hW
  have HM := Lib.hid (hM.later hB)
  have HB0 := Lib.hid hB
  obtain ⟨x0, hx0⟩ : ∃ x, w.heap.size = x := ⟨_, rfl⟩
  rw [hx0] at hX
  have HX := Lib.hid hX
  have HW := Lib.hid hW
  have HX0 := Lib.hid hx0
  clear hn hM hr hW hB hX hx0
  go_enter Try.func22, Try.ntmps22
  go_wp2_with fail
  rw [HW.out, HX0.out]
  go_loopw [5] (fun u wr => ∃ k : Nat, k ≤ n ∧ u = .int .i64 k ∧ amT ⟨ta, ti⟩ (L.drop k) = r ∧ Below W.heap.size W wr) (fun u _ => n - (intOf u).toNat)
  case atStart => exact ⟨0, Nat.zero_le _, rfl, HR.out, Below.refl _ _⟩
  case round =>
    obtain ⟨k, hk, rfl, hf, hB⟩ := hrel
    have HF := Lib.hid hf
    have HB := Lib.hid hB
    clear hf
    by_cases hlt : k < n
    · obtain ⟨x, hx⟩ : ∃ x, L[k]? = some x := ⟨_, List.getElem?_eq_getElem (by rw [HN.out]; exact hlt)⟩
      have i0 : (0 : Int) ≤ (k : Int) := by omega
      have i1 : (k : Int) < (n : Int) := by omega
      have HA := Lib.hid (HF.out.symm.trans (amT_at (t := ⟨ta, ti⟩) hx))
      obtain ⟨b, off, rfl, hb, p0, p1⟩ := Txs.cells (HM.out.later hB) hx
      obtain ⟨_, q0, q1⟩ := HX.out.later hB
      obtain ⟨xa, xi⟩ := x
      simp only at p0 p1 HA q0 q1
      clear hx hB
      by_cases he : (⟨xa, xi⟩ : Tx) = ⟨ta, ti⟩
      · obtain rfl : r = true := by rw [HA.out, decide_eq_true he]; rfl
        cases he
        go_wp2_with fail
        go_quiet (fail)
        go_wp2_with fail
        go_ret
        exact ⟨by first | rfl | simp, below_drewN (HB0.out.trans (HB.out.mono HB0.out.size)) _⟩
      · have HN2 := Lib.hid (show amT ⟨ta, ti⟩ (L.drop (k + 1)) = r by rw [HA.out, decide_eq_false he]; rfl)
        rcases tx_ne he with g | ⟨g0, g⟩
        · go_wp2_with fail
          go_quiet (fail)
          go_wp2_with fail
          go_roundw
          case rel => exact ⟨k + 1, by omega, by go_num, HN2.out, below_drewN HB.out _⟩
          case measure => simp [intOf]; omega
        · subst g0
          go_wp2_with fail
          go_quiet (fail)
          go_wp2_with fail
          go_roundw
          case rel => exact ⟨k + 1, by omega, by go_num, HN2.out, below_drewN HB.out _⟩
          case measure => simp [intOf]; omega
    · have i1 : ¬ (k : Int) < (n : Int) := by omega
      obtain rfl : r = false := by rw [← HF.out, List.drop_eq_nil_of_le (by rw [HN.out]; omega)]; rfl
      clear hB
      go_wp2_with fail
      go_ret
      exact ⟨by first | rfl | simp, HB0.out.trans (HB.out.mono HB0.out.size)⟩
set_option maxHeartbeats 1000000 in
theorem rSame_any (n c c2 : Nat) (a a2 : Option Addr) (L : List Ho) (hn : L.length = n) (hl : n ≤ 140737488351232) (w : World) (h1 : Hos w a L) (h2 : Hos w a2 L) :
    Calls Try.prog 12 #[.slice a n c, .slice a2 n c2] w fun e w' => e = .returned (.bool true) ∧ Below w.heap.size w w' := by
  have HN := Lib.hid hn
  have H1 := Lib.hid h1
  have H2 := Lib.hid h2
  have HW := Lib.hid (Below.refl w.heap.size w)
  clear hn h1 h2
  go_enter Try.func12, Try.ntmps12
  go_wp2_with fail
  go_loopw [5] (fun u wr => ∃ k : Nat, k ≤ n ∧ u = .int .i64 k ∧ Below w.heap.size w wr) (fun u _ => n - (intOf u).toNat)
  case atStart => exact ⟨0, Nat.zero_le _, rfl, HW.out⟩
  case round =>
    obtain ⟨k, hk, rfl, hB⟩ := hrel
    have HB := Lib.hid hB
    by_cases hlt : k < n
    · obtain ⟨x, hx⟩ : ∃ x, L[k]? = some x := ⟨_, List.getElem?_eq_getElem (by rw [HN.out]; exact hlt)⟩
      have i0 : (0 : Int) ≤ (k : Int) := by omega
      have i1 : (k : Int) < (n : Int) := by omega
      obtain ⟨b, off, rfl, hb, p0, p1, p2, p3⟩ := Hos.cells (H1.out.later hB) hx
      obtain ⟨b2, off2, rfl, hb2, q0, q1, q2, q3⟩ := Hos.cells (H2.out.later hB) hx
      obtain ⟨xk, ⟨xa, xi⟩, xw⟩ := x
      simp only at p0 p1 p2 p3 q0 q1 q2 q3
      clear hx hB
      go_wp2_with fail
      go_quiet (fail)
      go_wp2_with fail
      go_roundw
      case rel => exact ⟨k + 1, by omega, by go_num, below_drewN HB.out _⟩
      case measure => simp [intOf]; omega
    · clear hB
      go_wp2_with fail
      go_ret
      exact ⟨by first | rfl | simp, HB.out⟩
set_option maxHeartbeats 1000000 in
theorem rSameTx_any (n c c2 : Nat) (a a2 : Option Addr) (L : List Tx) (hn : L.length = n) (hl : n ≤ 140737488351232) (w : World) (h1 : Txs w a L) (h2 : Txs w a2 L) :
    Calls Try.prog 13 #[.slice a n c, .slice a2 n c2] w fun e w' => e = .returned (.bool true) ∧ Below w.heap.size w w' := by
  have HN := Lib.hid hn
  have H1 := Lib.hid h1
  have H2 := Lib.hid h2
  have HW := Lib.hid (Below.refl w.heap.size w)
  clear hn h1 h2
  go_enter Try.func13, Try.ntmps13
  go_wp2_with fail
  go_loopw [5] (fun u wr => ∃ k : Nat, k ≤ n ∧ u = .int .i64 k ∧ Below w.heap.size w wr) (fun u _ => n - (intOf u).toNat)
  case atStart => exact ⟨0, Nat.zero_le _, rfl, HW.out⟩
  case round =>
    obtain ⟨k, hk, rfl, hB⟩ := hrel
    have HB := Lib.hid hB
    by_cases hlt : k < n
    · obtain ⟨x, hx⟩ : ∃ x, L[k]? = some x := ⟨_, List.getElem?_eq_getElem (by rw [HN.out]; exact hlt)⟩
      have i0 : (0 : Int) ≤ (k : Int) := by omega
      have i1 : (k : Int) < (n : Int) := by omega
      obtain ⟨b, off, rfl, hb, p0, p1⟩ := Txs.cells (H1.out.later hB) hx
      obtain ⟨b2, off2, rfl, hb2, q0, q1⟩ := Txs.cells (H2.out.later hB) hx
      obtain ⟨xa, xi⟩ := x
      simp only at p0 p1 q0 q1
      clear hx hB
      go_wp2_with fail
      go_quiet (fail)
      go_wp2_with fail
      go_roundw
      case rel => exact ⟨k + 1, by omega, by go_num, below_drewN HB.out _⟩
      case measure => simp [intOf]; omega
    · clear hB
      go_wp2_with fail
      go_ret
      exact ⟨by first | rfl | simp, HB.out⟩
end Go.Proofs.Ytfidgnhinllhlaa
