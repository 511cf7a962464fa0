/- Layer 3: Crash: whatever tape there is. -/
import Derived.Test.YtifldjbpomnfaaaTk1
import Derived.Test.YtifldjbpomnfaaaTk2
import Derived.Test.YtifldjbpomnfaaaTk3
import Derived.Test.YtifldjbpomnfaaaTk4
namespace Go.Proofs.Ytifldjbpomnfaaa
open Go.RowKit

theorem app_none (a b : ByteArray) (k : Nat) (hk : k = 0) : a ++ b.extract 0 k = a := by
  subst hk; apply ByteArray.ext; simp
theorem crash_any (a b : ByteArray) (p n : Int) (o : Bool) (w : World) (hs : a.size + b.size ≤ 1125899906842624) : Calls Try.prog 17 #[.agg #[.string a, .string b, .int .i64 p, .bool o], .int .i64 n] w fun e w' =>
    e = .returned (.agg #[.string (tCrash ⟨a, b, p, o⟩ n).a, .string ByteArray.empty, .int .i64 (-1), .bool false]) ∧ Below w.heap.size w w' := by
  show Calls _ _ _ _ fun e w' => e = .returned (.agg #[.string (a ++ b.extract 0 (min n.toNat b.size)), .string ByteArray.empty, .int .i64 (-1), .bool false]) ∧ Below w.heap.size w w'
  by_cases h0 : 0 < n
  · by_cases hb : 0 < b.size
    · by_cases h1 : (b.size : Int) < n
      · exact crash_p1 a b p n _ o w hs (by omega) h0 hb h1 (by omega)
      · exact crash_p2 a b p n _ o w hs (by omega) h0 hb h1 (by omega)
    · rw [app_none a b _ (by omega)]; exact crash_z2 a b p n o w hs h0 hb
  · rw [app_none a b _ (by omega)]; exact crash_z1 a b p n o w hs h0
end Go.Proofs.Ytifldjbpomnfaaa
