/- The reference of layer 4: May: which states may be. -/
import Derived.Test.YtdcpiaoadbbdoaaGreatDoorRb
import Derived.Test.YtdcpiaoadbbdoaaGreatDoorAp
import Derived.Deep.QuietTactic
import Derived.BigQuiet
set_option maxRecDepth 100000
set_option maxHeartbeats 16000000
namespace Go.Proofs.YtdcpiaoadbbdoaaGreatDoor
open Go.RowKit

def entOk (term bt : Nat) (L : List En) (k : Nat) : Prop := ∀ x, L[k]? = some x → x.t ≤ term ∧ bt ≤ x.t ∧ (∀ y, 0 < k → L[k - 1]? = some y → y.t ≤ x.t) ∧ x.d.size ≤ 4096
def stOk (term vote base bt : Nat) (snap : ByteArray) (L : List En) : Prop :=
 term ≤ 4611686018427387903 ∧ vote ≤ 4611686018427387903 ∧ base ≤ 1099511627776 ∧ L.length ≤ 1024 ∧ base + L.length ≤ 1099511627776 ∧ snap.size ≤ 4096 ∧ bt ≤ term ∧ (base = 0 → bt = 0 ∧ snap.size = 0) ∧ ∀ k, entOk term bt L k
def MayP (P : Prop) (w : World) (e : Ending) (w' : World) : Prop := (∃ b : Bool, e = .returned (.bool b) ∧ (b = true ↔ P)) ∧ Below w.heap.size w w'
theorem mayP_no {P : Prop} {w w' : World} (h : ¬ P) (hb : Below w.heap.size w w') : MayP P w (.returned (.bool false)) w' := ⟨⟨false, rfl, by simp [h]⟩, hb⟩
theorem mayP_yes {P : Prop} {w w' : World} (h : P) (hb : Below w.heap.size w w') : MayP P w (.returned (.bool true)) w' := ⟨⟨true, rfl, by simp [h]⟩, hb⟩
end Go.Proofs.YtdcpiaoadbbdoaaGreatDoor
