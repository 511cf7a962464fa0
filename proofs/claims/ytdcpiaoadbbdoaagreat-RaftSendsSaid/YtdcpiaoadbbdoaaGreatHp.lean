/- The program's changes: vote and leave. -/
import Derived.Test.YtdcpiaoadbbdoaaGreatBulk
import Derived.Test.YtdcpiaoadbbdoaaGreatHn
set_option maxRecDepth 100000
set_option maxHeartbeats 16000000
namespace Go.Proofs.YtdcpiaoadbbdoaaGreat
open Go.RowKit


theorem asc_of_pairwise {L : List Nat} (h : L.Pairwise (· < ·)) : Asc L := fun i j x y hij hx hy => by
 obtain ⟨hi, rfl⟩ := List.getElem?_eq_some_iff.1 hx
 obtain ⟨hj, rfl⟩ := List.getElem?_eq_some_iff.1 hy
 rcases Nat.lt_or_ge i j with h2 | h2
 · exact Nat.le_of_lt (List.pairwise_iff_getElem.1 h i j hi hj h2)
 · obtain rfl : i = j := by omega
   exact Nat.le_refl _
def nxtF (V L : List Nat) (kind : Int) (id : Nat) : (List Nat × List Nat) × Int :=
 if mayB V L && decide (1 ≤ id ∧ id ≤ 63) then (if kind = 1 then lrnF id V L else if kind = 2 then votF id V L else if kind = 3 then levF id V L else (([], []), 1)) else (([], []), 1)
theorem nx_laid {w w1 w2 : World} {r : (List Nat × List Nat) × Int} {x : Nat} (hx : w.heap.size ≤ x) (hx1 : x < w1.heap.size) (hB1 : Below w.heap.size w w1) {e : Ending} (h : NxF w1 r e w2) :
 ∃ (a : Option Addr) (m c : Nat) (a2 : Option Addr) (m2 c2 : Nat), e = .returned (.tuple #[.agg #[.slice a m c, .slice a2 m2 c2], .int .i64 r.2]) ∧ NxF w r (.returned (.tuple #[.agg #[.slice a m c, .slice a2 m2 c2], .int .i64 r.2])) ((w2.setCell ⟨x, 0, none⟩ (.slice a m c)).setCell ⟨x, 1, none⟩ (.slice a2 m2 c2)) ∧ Below w1.heap.size w1 w2 := by
 obtain ⟨a, c, a2, c2, rfl, h1, h2, h3, h4, h5⟩ := h
 refine ⟨_, _, _, _, _, _, rfl, ⟨a, c, a2, c2, rfl, ?_, ?_, fun h q e => Nat.le_trans hB1.size (h3 h q e), fun h q e => Nat.le_trans hB1.size (h4 h q e), ?_⟩, h5⟩
 · exact (h1.set' (fun h q e => by have := h3 h q e; omega) _ _).set' (fun h q e => by have := h3 h q e; omega) _ _
 · exact (h2.set' (fun h q e => by have := h4 h q e; omega) _ _).set' (fun h q e => by have := h4 h q e; omega) _ _
 · exact ((hB1.trans (h5.mono hB1.size)).setCell hx _).setCell hx _
end Go.Proofs.YtdcpiaoadbbdoaaGreat
