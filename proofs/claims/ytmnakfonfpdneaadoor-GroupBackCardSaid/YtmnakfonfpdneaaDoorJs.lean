/- Whether two configurations are the same: where they hold the same. -/
import Derived.Test.YtmnakfonfpdneaaDoorGa
namespace Go.Proofs.YtmnakfonfpdneaaDoor
open Go.RowKit

set_option maxHeartbeats 1000000 in
theorem rSameU_any (n c c2 : Nat) (a a2 : Option Addr) (L : List Nat) (hn : L.length = n) (hl : n ≤ 140737488351232) (w : World) (h1 : Us w a L) (h2 : Us w a2 L) :
    Calls Tryd.prog 20 #[.slice a n c, .slice a2 n c2] w fun e w' => e = .returned (.bool true) ∧ Below w.heap.size w w' := by
  have HN := Lib.hid hn
  have H1 := Lib.hid h1
  have H2 := Lib.hid h2
  have HW := Lib.hid (Below.refl w.heap.size w)
  clear hn h1 h2
  go_enter Tryd.func20, Tryd.ntmps20
  go_wp2_with fail
  go_loopw [5] (fun u wr => ∃ k : Nat, k ≤ n ∧ u = .int .i64 k ∧ Below w.heap.size w wr) (fun u _ => n - (intOf u).toNat)
  case atStart => exact ⟨0, Nat.zero_le _, rfl, HW.out⟩
  case round =>
    obtain ⟨k, hk, rfl, hB⟩ := hrel
    have HB := Lib.hid hB
    by_cases hlt : k < n
    · obtain ⟨x, hx⟩ : ∃ x, L[k]? = some x := ⟨_, List.getElem?_eq_getElem (by rw [HN.out]; exact hlt)⟩
      have i0 : (0 : Int) ≤ (k : Int) := by omega
      have i1 : (k : Int) < (n : Int) := by omega
      obtain ⟨b, off, rfl, hb, p0⟩ := H1.out.later hB k x hx
      obtain ⟨b2, off2, rfl, hb2, q0⟩ := H2.out.later hB k x hx
      clear hx hB
      go_wp2_with fail
      go_quiet (fail)
      go_wp2_with fail
      go_roundw
      case rel => exact ⟨k + 1, by omega, by go_num, below_drewN HB.out _⟩
      case measure => simp [intOf]; omega
    · clear hB
      go_wp2_with fail
      go_ret
      exact ⟨by first | rfl | simp, HB.out⟩
set_option maxHeartbeats 1000000 in
theorem rSame_any (n c m d c2 d2 : Nat) (a a2 b b2 : Option Addr) (V L : List Nat) (hn : V.length = n) (hl : n ≤ 140737488351232) (hm : L.length = m) (hl2 : m ≤ 140737488351232) (w : World) (h1 : Us w a V) (h2 : Us w b L) (h3 : Us w a2 V) (h4 : Us w b2 L) :
    Calls Tryd.prog 10 #[.agg #[.slice a n c, .slice b m d], .agg #[.slice a2 n c2, .slice b2 m d2]] w fun e w' => e = .returned (.bool true) ∧ Below w.heap.size w w' := by
  have B0 : Below w.heap.size w ((w.alloc (.cells #[.slice a n c, .slice b m d] 24)).alloc (.cells #[.slice a2 n c2, .slice b2 m d2] 24)) := by go_grown
  have C0 := (Cb.new (w := w) rfl (.slice a n c) (.slice b m d) 24).past (.cells #[.slice a2 n c2, .slice b2 m d2] 24)
  have D0 := Cb.new (w := w.alloc (.cells #[.slice a n c, .slice b m d] 24)) rfl (.slice a2 n c2) (.slice b2 m d2) 24
  have es : (w.alloc (.cells #[.slice a n c, .slice b m d] 24)).heap.size = w.heap.size + 1 := by simp
  rw [es] at D0
  have H1 := Lib.hid (h1.later B0)
  have H2 := Lib.hid (h2.later B0)
  have H3 := Lib.hid (h3.later B0)
  have H4 := Lib.hid (h4.later B0)
  have HB := Lib.hid B0
  clear h1 h2 h3 h4 es
  go_enter Tryd.func10, Tryd.ntmps10
  go_wp2_with fail
  have HC := Lib.hid C0
  have HD := Lib.hid D0
  clear C0 D0 B0
  refine (rSameU_any n c c2 a a2 V hn hl _ H1.out H3.out).mono ?_
  rintro e w1 ⟨rfl, hb1⟩
  obtain ⟨c0, c1, _, _⟩ := HC.out.later hb1
  obtain ⟨d0, d1, _, _⟩ := HD.out.later hb1
  have B1 := Lib.hid (HB.out.trans (hb1.mono HB.out.size))
  have H2' := Lib.hid (H2.out.later hb1)
  have H4' := Lib.hid (H4.out.later hb1)
  clear hb1
  go_wp2_with fail
  refine (rSameU_any m d d2 b b2 L hm hl2 _ H2'.out H4'.out).mono ?_
  rintro e w2 ⟨rfl, hb2⟩
  have B2 := B1.out.trans (hb2.mono B1.out.size)
  clear hb2
  go_wp2_with fail
  go_ret
  exact ⟨by first | rfl | simp, B2⟩
end Go.Proofs.YtmnakfonfpdneaaDoor
