/-
  No cell of these rows narrows 'for every input' (looked for: loops, veiled, ifaces, maps, wideKeys, modest, calm, conditions, laid).
  DERIVED. THE GIVEN ROWS OF THIS SEAT. 6 by the template 'for every input the law returns true; each argument reads behind the call as it read before'; 0 by the template 'total and deterministic' (their statements: YtoabpakichjieaaTotals.lean).
  GIVEN WITH THE SEED: the statements are not yours to turn. If you find one false, say at which input.
  Laid BY PROGRAM, IN A SANDBOX (cutbox-rows.mjs): the forced cells as the released guide's own fill.sh prints them over the translation 88116d2b88a7a197… (all of the seat's roots in one cut). By AI agents, Wed Nov 11 2026. No macro, syntax, notation, axiom, sorry.
-/
import Derived.Test.YtoabpakichjieaaChecked
import GoSem.Claim
import GoSem.ClaimJoined
import GoSem.ClaimMapViews
import Derived.JoinedTies
import Derived.KernelRfl
namespace Go.Proofs.Ytoabpakichjieaa
/- THE CELL 'sum', in the pinned program and in every row, IS THE sha256 OF THE DUMP (.gsa) THAT YtoabpakichjieaaProg.lean LOADS. Nothing in Lean hashes anything: it is a label: what it is worth is what the hold of that sum in a sandbox is worth. -/
noncomputable def Try.pinned : Pinned := { name := "ytoabpakichjieaa", sum := "88116d2b88a7a197447c404bf0bdacc6fc965309ad22ac20f834fd698a45f335", checked := Try.checked }
namespace Rows
def none {H : Type} : Left H := { results := [], args := [] }

/-- 'ferrulelaw10.LeaseBounds': WHATEVER THE INPUT: true; the input reads as it did. -/
def leaseBoundsSpec : ChangeSpec := { name := "leaseBounds", fn := fun _ => fun
  | [d1, d2] => { results := [.lit (.bool true)], args := [d1, d2] }
  | _ => none }
def leaseBoundsRow : OpenClaim := { program := "ytoabpakichjieaa", sum := "88116d2b88a7a197447c404bf0bdacc6fc965309ad22ac20f834fd698a45f335", func := "ferrule/ferrulelaw10.LeaseBounds", spec := "leaseBounds", unfollowed := true, recurses := true, named := ["math/bits.divideError", "math/bits.overflowError"], apart := false }
def LeaseBoundsSaid : Prop := leaseBoundsRow.holds Try.pinned (OpenSpec.ofChange leaseBoundsSpec)

/-- ITS FALSE NEIGHBOUR: 'it returns false'. Refute it at one input. -/
def leaseBoundsWrong : ChangeSpec := { name := "leaseBounds", fn := fun _ => fun
  | [d1, d2] => { results := [.lit (.bool false)], args := [d1, d2] }
  | _ => none }
def LeaseBoundsWrongFalsely : Prop := leaseBoundsRow.holds Try.pinned (OpenSpec.ofChange leaseBoundsWrong)

/-- 'ferrulelaw10.LeaseWithin': WHATEVER THE INPUT: true; the input reads as it did. -/
def leaseWithinSpec : ChangeSpec := { name := "leaseWithin", fn := fun _ => fun
  | [d1, d2, d3] => { results := [.lit (.bool true)], args := [d1, d2, d3] }
  | _ => none }
def leaseWithinRow : OpenClaim := { program := "ytoabpakichjieaa", sum := "88116d2b88a7a197447c404bf0bdacc6fc965309ad22ac20f834fd698a45f335", func := "ferrule/ferrulelaw10.LeaseWithin", spec := "leaseWithin", inPlace := ["math/bits.Add64"], unfollowed := true, recurses := true, named := ["math/bits.divideError", "math/bits.overflowError"], apart := false }
def LeaseWithinSaid : Prop := leaseWithinRow.holds Try.pinned (OpenSpec.ofChange leaseWithinSpec)

/-- ITS FALSE NEIGHBOUR: 'it returns false'. Refute it at one input. -/
def leaseWithinWrong : ChangeSpec := { name := "leaseWithin", fn := fun _ => fun
  | [d1, d2, d3] => { results := [.lit (.bool false)], args := [d1, d2, d3] }
  | _ => none }
def LeaseWithinWrongFalsely : Prop := leaseWithinRow.holds Try.pinned (OpenSpec.ofChange leaseWithinWrong)

/-- 'ferrulelaw10.LeaseUntil': WHATEVER THE INPUT: true; the input reads as it did. -/
def leaseUntilSpec : ChangeSpec := { name := "leaseUntil", fn := fun _ => fun
  | [d] => { results := [.lit (.bool true)], args := [d] }
  | _ => none }
def leaseUntilRow : OpenClaim := { program := "ytoabpakichjieaa", sum := "88116d2b88a7a197447c404bf0bdacc6fc965309ad22ac20f834fd698a45f335", func := "ferrule/ferrulelaw10.LeaseUntil", spec := "leaseUntil", unfollowed := true, recurses := true, named := ["math/bits.divideError", "math/bits.overflowError"], apart := false }
def LeaseUntilSaid : Prop := leaseUntilRow.holds Try.pinned (OpenSpec.ofChange leaseUntilSpec)

/-- ITS FALSE NEIGHBOUR: 'it returns false'. Refute it at one input. -/
def leaseUntilWrong : ChangeSpec := { name := "leaseUntil", fn := fun _ => fun
  | [d] => { results := [.lit (.bool false)], args := [d] }
  | _ => none }
def LeaseUntilWrongFalsely : Prop := leaseUntilRow.holds Try.pinned (OpenSpec.ofChange leaseUntilWrong)

/-- 'ferrulelaw10.LeaseSafe': WHATEVER THE INPUT: true; the input reads as it did. -/
def leaseSafeSpec : ChangeSpec := { name := "leaseSafe", fn := fun _ => fun
  | [d] => { results := [.lit (.bool true)], args := [d] }
  | _ => none }
def leaseSafeRow : OpenClaim := { program := "ytoabpakichjieaa", sum := "88116d2b88a7a197447c404bf0bdacc6fc965309ad22ac20f834fd698a45f335", func := "ferrule/ferrulelaw10.LeaseSafe", spec := "leaseSafe", inPlace := ["math/bits.Add64"], unfollowed := true, recurses := true, named := ["math/bits.divideError", "math/bits.overflowError"], apart := false }
def LeaseSafeSaid : Prop := leaseSafeRow.holds Try.pinned (OpenSpec.ofChange leaseSafeSpec)

/-- ITS FALSE NEIGHBOUR: 'it returns false'. Refute it at one input. -/
def leaseSafeWrong : ChangeSpec := { name := "leaseSafe", fn := fun _ => fun
  | [d] => { results := [.lit (.bool false)], args := [d] }
  | _ => none }
def LeaseSafeWrongFalsely : Prop := leaseSafeRow.holds Try.pinned (OpenSpec.ofChange leaseSafeWrong)

/-- 'ferrulelaw10.LeaseLess': WHATEVER THE INPUT: true; the input reads as it did. -/
def leaseLessSpec : ChangeSpec := { name := "leaseLess", fn := fun _ => fun
  | [d1, d2, d3] => { results := [.lit (.bool true)], args := [d1, d2, d3] }
  | _ => none }
def leaseLessRow : OpenClaim := { program := "ytoabpakichjieaa", sum := "88116d2b88a7a197447c404bf0bdacc6fc965309ad22ac20f834fd698a45f335", func := "ferrule/ferrulelaw10.LeaseLess", spec := "leaseLess", unfollowed := true, recurses := true, named := ["math/bits.divideError", "math/bits.overflowError"], apart := false }
def LeaseLessSaid : Prop := leaseLessRow.holds Try.pinned (OpenSpec.ofChange leaseLessSpec)

/-- ITS FALSE NEIGHBOUR: 'it returns false'. Refute it at one input. -/
def leaseLessWrong : ChangeSpec := { name := "leaseLess", fn := fun _ => fun
  | [d1, d2, d3] => { results := [.lit (.bool false)], args := [d1, d2, d3] }
  | _ => none }
def LeaseLessWrongFalsely : Prop := leaseLessRow.holds Try.pinned (OpenSpec.ofChange leaseLessWrong)

/-- 'ferrulelaw10.LeaseMost': WHATEVER THE INPUT: true; the input reads as it did. -/
def leaseMostSpec : ChangeSpec := { name := "leaseMost", fn := fun _ => fun
  | [d] => { results := [.lit (.bool true)], args := [d] }
  | _ => none }
def leaseMostRow : OpenClaim := { program := "ytoabpakichjieaa", sum := "88116d2b88a7a197447c404bf0bdacc6fc965309ad22ac20f834fd698a45f335", func := "ferrule/ferrulelaw10.LeaseMost", spec := "leaseMost", unfollowed := true, recurses := true, named := ["math/bits.divideError", "math/bits.overflowError"], apart := false }
def LeaseMostSaid : Prop := leaseMostRow.holds Try.pinned (OpenSpec.ofChange leaseMostSpec)

/-- ITS FALSE NEIGHBOUR: 'it returns false'. Refute it at one input. -/
def leaseMostWrong : ChangeSpec := { name := "leaseMost", fn := fun _ => fun
  | [d] => { results := [.lit (.bool false)], args := [d] }
  | _ => none }
def LeaseMostWrongFalsely : Prop := leaseMostRow.holds Try.pinned (OpenSpec.ofChange leaseMostWrong)

/- THE SECOND FORM. 'bulk': how many values and letters a reading holds, each counted each time it is reached (what is shared counts as often as it is met; a slice's spare places count too). A statement '..UptoSaid' is the law's where the arguments, and the package variables that the reading takes, are together of bulk at most 1048576: NARROWER than '..Said'. Prove '..Said' where nothing that the law and all that it calls make is longer than what came in: it says more and counts as full. Else prove '..UptoSaid'. A law counts once. -/
mutual
def uptoBulk {H : Type} : DataW H → Nat
  | .lit (.string bytes) => bytes.length + 1
  | .lit _ => 1
  | .nil => 1
  | .ptr d => uptoBulk d + 1
  | .slice elems spare => uptoBulkAll elems + uptoBulkAll spare + 1
  | .agg parts => uptoBulkAll parts + 1
  | .iface _ d => uptoBulk d + 1
  | .map entries => uptoBulkEntries entries + 1
  | .held _ => 1
def uptoBulkAll {H : Type} : List (DataW H) → Nat
  | [] => 0
  | d :: r => uptoBulk d + uptoBulkAll r
def uptoBulkEntries {H : Type} : List (Lit × DataW H) → Nat
  | [] => 0
  | x :: r => uptoBulkEntry x + uptoBulkEntries r
def uptoBulkEntry {H : Type} : Lit × DataW H → Nat
  | (.string bytes, d) => bytes.length + uptoBulk d + 1
  | (_, d) => uptoBulk d + 1
 end
def uptoSmall : (H : Type) → List (DataW H) → Bool := fun _ ds => decide (uptoBulkAll ds ≤ 1048576)
def OpenSpec.upto (s : _root_.Go.ChangeSpec) : _root_.Go.OpenSpec := { _root_.Go.OpenSpec.ofChange s with cond := some uptoSmall }

/-- 'ferrulelaw10.LeaseBounds', WHERE WHAT IT READS IS OF BULK AT MOST 1048576: true; the input reads as it did. -/
def leaseBoundsUptoRow : OpenClaim := { program := "ytoabpakichjieaa", sum := "88116d2b88a7a197447c404bf0bdacc6fc965309ad22ac20f834fd698a45f335", func := "ferrule/ferrulelaw10.LeaseBounds", spec := "leaseBounds", unfollowed := true, recurses := true, named := ["math/bits.divideError", "math/bits.overflowError"], apart := false, narrowed := true }
def LeaseBoundsUptoSaid : Prop := leaseBoundsUptoRow.holds Try.pinned (OpenSpec.upto leaseBoundsSpec)

/-- 'ferrulelaw10.LeaseWithin', WHERE WHAT IT READS IS OF BULK AT MOST 1048576: true; the input reads as it did. -/
def leaseWithinUptoRow : OpenClaim := { program := "ytoabpakichjieaa", sum := "88116d2b88a7a197447c404bf0bdacc6fc965309ad22ac20f834fd698a45f335", func := "ferrule/ferrulelaw10.LeaseWithin", spec := "leaseWithin", inPlace := ["math/bits.Add64"], unfollowed := true, recurses := true, named := ["math/bits.divideError", "math/bits.overflowError"], apart := false, narrowed := true }
def LeaseWithinUptoSaid : Prop := leaseWithinUptoRow.holds Try.pinned (OpenSpec.upto leaseWithinSpec)

/-- 'ferrulelaw10.LeaseUntil', WHERE WHAT IT READS IS OF BULK AT MOST 1048576: true; the input reads as it did. -/
def leaseUntilUptoRow : OpenClaim := { program := "ytoabpakichjieaa", sum := "88116d2b88a7a197447c404bf0bdacc6fc965309ad22ac20f834fd698a45f335", func := "ferrule/ferrulelaw10.LeaseUntil", spec := "leaseUntil", unfollowed := true, recurses := true, named := ["math/bits.divideError", "math/bits.overflowError"], apart := false, narrowed := true }
def LeaseUntilUptoSaid : Prop := leaseUntilUptoRow.holds Try.pinned (OpenSpec.upto leaseUntilSpec)

/-- 'ferrulelaw10.LeaseSafe', WHERE WHAT IT READS IS OF BULK AT MOST 1048576: true; the input reads as it did. -/
def leaseSafeUptoRow : OpenClaim := { program := "ytoabpakichjieaa", sum := "88116d2b88a7a197447c404bf0bdacc6fc965309ad22ac20f834fd698a45f335", func := "ferrule/ferrulelaw10.LeaseSafe", spec := "leaseSafe", inPlace := ["math/bits.Add64"], unfollowed := true, recurses := true, named := ["math/bits.divideError", "math/bits.overflowError"], apart := false, narrowed := true }
def LeaseSafeUptoSaid : Prop := leaseSafeUptoRow.holds Try.pinned (OpenSpec.upto leaseSafeSpec)

/-- 'ferrulelaw10.LeaseLess', WHERE WHAT IT READS IS OF BULK AT MOST 1048576: true; the input reads as it did. -/
def leaseLessUptoRow : OpenClaim := { program := "ytoabpakichjieaa", sum := "88116d2b88a7a197447c404bf0bdacc6fc965309ad22ac20f834fd698a45f335", func := "ferrule/ferrulelaw10.LeaseLess", spec := "leaseLess", unfollowed := true, recurses := true, named := ["math/bits.divideError", "math/bits.overflowError"], apart := false, narrowed := true }
def LeaseLessUptoSaid : Prop := leaseLessUptoRow.holds Try.pinned (OpenSpec.upto leaseLessSpec)

/-- 'ferrulelaw10.LeaseMost', WHERE WHAT IT READS IS OF BULK AT MOST 1048576: true; the input reads as it did. -/
def leaseMostUptoRow : OpenClaim := { program := "ytoabpakichjieaa", sum := "88116d2b88a7a197447c404bf0bdacc6fc965309ad22ac20f834fd698a45f335", func := "ferrule/ferrulelaw10.LeaseMost", spec := "leaseMost", unfollowed := true, recurses := true, named := ["math/bits.divideError", "math/bits.overflowError"], apart := false, narrowed := true }
def LeaseMostUptoSaid : Prop := leaseMostUptoRow.holds Try.pinned (OpenSpec.upto leaseMostSpec)

end Rows
end Go.Proofs.Ytoabpakichjieaa
