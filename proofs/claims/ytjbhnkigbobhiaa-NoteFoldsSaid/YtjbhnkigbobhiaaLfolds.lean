/- NoteFolds: whatever notes there are, they come to the document's state. -/
import Derived.Test.YtjbhnkigbobhiaaKs
import Derived.Test.YtjbhnkigbobhiaaSk
namespace Go.Proofs.Ytjbhnkigbobhiaa
open Go.RowKit

set_option maxHeartbeats 2000000 in
theorem law_NoteFolds (a : Option Addr) (n c : Nat) (L : List Nt) (hn : L.length = n) (hl : n ≤ 140737488351232) (w : World) (hN : Nts w a L) :
    Calls Try.prog 4 #[.slice a n c] w fun e w' => e = .returned (.bool true) ∧ Below w.heap.size w w' := by
  have hfit := Sg.fit_foldl L Sg.zero Sg.fit_zero
  have hf : (Sg.fold L).L.length ≤ 1024 := hfit.1
  obtain ⟨s, hs⟩ : ∃ s, Sg.fold L = s := ⟨_, rfl⟩
  rw [hs] at hf
  have HS := Lib.hid hs
  have HN := Lib.hid hn
  clear hs hn hfit
  go_enter Try.func4, Try.ntmps4
  go_wp2_with fail
  refine (shown_any _).mono ?_
  rintro e w1 ⟨rfl, hb1⟩
  have hN1 := hN.later hb1
  have B1 : Below w.heap.size w w1 := hb1
  clear hb1 hN
  go_wp2_with fail
  refine (pFold_any a n c L HN.out hl _ hN1).mono ?_
  rintro e w2 ⟨a2, c2, rfl, hE2, hb2⟩
  rw [HS.out] at hE2 ⊢
  have hN2 := hN1.later hb2
  have B2 := B1.trans (hb2.mono B1.size)
  clear hb2 hN1 B1
  go_wp2_with fail
  refine (refFold_any a n c L HN.out hl _ hN2).mono ?_
  rintro e w3 ⟨a3, c3, rfl, hE3, hb3⟩
  rw [HS.out] at hE3 ⊢
  have hE2' := hE2.later hb3
  have B3 := B2.trans (hb3.mono B2.size)
  clear hb3 hN2 hE2 B2
  go_wp2_with fail
  refine (refSame_eq a2 a3 _ c2 c3 s.term s.vote s.base s.bt s.snap s.L rfl (by omega) _ hE2' hE3).mono ?_
  rintro e w4 ⟨rfl, hb4⟩
  have B4 := B3.trans (hb4.mono B3.size)
  clear hb4 hE2' hE3 B3
  go_wp2_with fail
  go_ret
  exact ⟨rfl, B4⟩
end Go.Proofs.Ytjbhnkigbobhiaa
