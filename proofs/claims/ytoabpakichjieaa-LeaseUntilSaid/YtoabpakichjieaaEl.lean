/- The library's count of leading zeros, and the program's Bound. -/
import Derived.Test.YtoabpakichjieaaEf
import Derived.Test.YtoabpakichjieaaShelf
namespace Go.Proofs.Ytoabpakichjieaa
open Go.RowKit

theorem lead64_any : Lead := fun x w h1 => by
  have l := Lib.bitLen_le x 64 (by omega)
  refine (Any.bits_LeadingZeros64 Try.lead64 (x : Int) w (by omega) (by omega)).mono ?_
  rintro e w' ⟨rfl, rfl⟩
  refine ⟨?_, rfl⟩
  rw [Int.toNat_natCast]
  congr 2
  omega
theorem pBound_any (s d : Nat) (hs : s < 18446744073709551616) (hd : d < 18446744073709551616) (w : World) :
    Calls Try.prog 10 #[.int .u64 s, .int .u64 d] w fun e w' => e = .returned (.int .u64 (bnd s d : Nat)) ∧ Below w.heap.size w w' := pBound_of lead64_any s d hs hd w
end Go.Proofs.Ytoabpakichjieaa
