/- A follower's answer is heard. -/
import Derived.Test.YtdcpiaoadbbdoaaGreatDoorRb
import Derived.Test.YtdcpiaoadbbdoaaGreatDoorQjn
set_option maxRecDepth 100000
set_option maxHeartbeats 16000000
namespace Go.Proofs.YtdcpiaoadbbdoaaGreatDoor
open Go.RowKit

theorem us_at {B : Nat} {v w0 : World} (_h : Below B v w0) (q : Nat) : ∃ z, w0.heap.size = z ∧ Below w0.heap.size w0 (w0.alloc (.cells #[.int .u64 q] 22)) ∧ Us (w0.alloc (.cells #[.int .u64 q] 22)) (some ⟨z, 0, none⟩) [q] :=
 ⟨_, rfl, (Below.refl _ _).alloc (Nat.le_refl _) _, fun j x hx => by
  have hj := (List.getElem?_eq_some_iff.1 hx).1
  have h0 : j = 0 := by simpa using hj
  subst h0
  simp at hx
  subst hx
  exact ⟨_, 0, rfl, by simp, by simp [go_sem]⟩⟩
end Go.Proofs.YtdcpiaoadbbdoaaGreatDoor
