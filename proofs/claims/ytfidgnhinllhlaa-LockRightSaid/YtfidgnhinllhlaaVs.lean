/- What the laws of layer 12 need of the program, in one place. -/
import Derived.Test.YtfidgnhinllhlaaVe
namespace Go.Proofs.Ytfidgnhinllhlaa
open Go.RowKit

/-- What Ask answers, in memory. -/
def AkP (w : World) (r : List Ho × List Tx × Nat) (e : Ending) (w' : World) : Prop := ∃ (a : Option Addr) (c : Nat) (a2 : Option Addr) (c2 : Nat), e = .returned (.tuple #[.slice a r.1.length c, .slice a2 r.2.1.length c2, .int .i64 (r.2.2 : Nat)]) ∧ Hos w' a r.1 ∧ r.1.length ≤ c ∧ c ≤ maxLen ∧ Txs w' a2 r.2.1 ∧ Below w.heap.size w w'
/-- The program's contracts: TT is what they need of the tables. -/
structure PLocks (TT : World → Prop) : Prop where
  below : ∀ {w w' : World}, TT w → Below w.heap.size w w' → TT w'
  elder : ∀ (a b : Tx) (w : World), TT w → Calls Try.prog 20 #[txV a, txV b] w fun e w' => e = .returned (.bool (eldT a b)) ∧ Below w.heap.size w w'
  has : ∀ (n c : Nat) (a : Option Addr) (L : List Ho) (t : Tx) (key : ByteArray) (wb : Bool), L.length = n → n ≤ 140737488351232 → smallH L → key.size ≤ 140737488351232 → ∀ w : World, TT w → Hos w a L →
    Calls Try.prog 16 #[.slice a n c, txV t, .string key, .bool wb] w fun e w' => e = .returned (.bool (hasH t key wb L)) ∧ Below w.heap.size w w'
  right : ∀ (n c : Nat) (a : Option Addr) (L : List Ho), L.length = n → n * 40 ≤ 140737488351232 → smallH L → ∀ w : World, TT w → Hos w a L →
    Calls Try.prog 18 #[.slice a n c] w fun e w' => e = .returned (.bool (rightH L)) ∧ Below w.heap.size w w'
  drop : ∀ (n c : Nat) (a : Option Addr) (L : List Ho) (t : Tx), L.length = n → n ≤ c → c ≤ maxLen → n * 40 ≤ 140737488351232 → smallH L → okX t → ∀ w : World, TT w → Hos w a L →
    Calls Try.prog 14 #[.slice a n c, txV t] w (HoP w (dropH t L))
  ask : ∀ (n c m d : Nat) (a b : Option Addr) (L : List Ho) (t : Tx) (key : ByteArray) (wb : Bool) (F : List Tx), L.length = n → n ≤ c → c ≤ maxLen → n * 40 ≤ 140737488351232 → smallH L → okA key t → F.length = m → m * 16 ≤ 140737488351232 → (∀ x ∈ F, okX x) → ∀ w : World, TT w → Hos w a L → Txs w b F →
    Calls Try.prog 10 #[.slice a n c, txV t, .string key, .bool wb, .slice b m d] w (AkP w (askH L t key wb F))
end Go.Proofs.Ytfidgnhinllhlaa
