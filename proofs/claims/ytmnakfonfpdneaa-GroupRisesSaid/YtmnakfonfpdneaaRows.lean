/-
  No cell of these rows narrows 'for every input' (looked for: loops, veiled, ifaces, maps, wideKeys, modest, calm, conditions, laid).
  DERIVED. THE GIVEN ROWS OF THIS SEAT. 6 by the template 'for every input the law returns true; each argument reads behind the call as it read before'; 0 by the template 'total and deterministic' (their statements: YtmnakfonfpdneaaTotals.lean).
  GIVEN WITH THE SEED: the statements are not yours to turn. If you find one false, say at which input.
  Laid BY PROGRAM, IN A SANDBOX (cutbox-rows.mjs): the forced cells as the released guide's own fill.sh prints them over the translation 69399ef84f4176cb… (all of the seat's roots in one cut). By AI agents, Wed Nov 11 2026. No macro, syntax, notation, axiom, sorry.
-/
import Derived.Test.YtmnakfonfpdneaaChecked
import GoSem.Claim
import GoSem.ClaimJoined
import GoSem.ClaimMapViews
import Derived.JoinedTies
import Derived.KernelRfl
namespace Go.Proofs.Ytmnakfonfpdneaa
/- THE CELL 'sum', in the pinned program and in every row, IS THE sha256 OF THE DUMP (.gsa) THAT YtmnakfonfpdneaaProg.lean LOADS. Nothing in Lean hashes anything: it is a label: what it is worth is what the hold of that sum in a sandbox is worth. -/
noncomputable def Try.pinned : Pinned := { name := "ytmnakfonfpdneaa", sum := "69399ef84f4176cb9cf603243882f8d87c6a37d92dccb54aa49b44f163524ee1", checked := Try.checked }
namespace Rows
def none {H : Type} : Left H := { results := [], args := [] }

/-- 'ferrulelaw06.GroupMay': WHATEVER THE INPUT: true; the input reads as it did. -/
def groupMaySpec : ChangeSpec := { name := "groupMay", fn := fun _ => fun
  | [d1, d2] => { results := [.lit (.bool true)], args := [d1, d2] }
  | _ => none }
def groupMayRow : OpenClaim := { program := "ytmnakfonfpdneaa", sum := "69399ef84f4176cb9cf603243882f8d87c6a37d92dccb54aa49b44f163524ee1", func := "ferrule/ferrulelaw06.GroupMay", spec := "groupMay", inPlace := ["slices.overlaps[uint64]"], unfollowed := true, recurses := true, apart := false }
def GroupMaySaid : Prop := groupMayRow.holds Try.pinned (OpenSpec.ofChange groupMaySpec)

/-- ITS FALSE NEIGHBOUR: 'it returns false'. Refute it at one input. -/
def groupMayWrong : ChangeSpec := { name := "groupMay", fn := fun _ => fun
  | [d1, d2] => { results := [.lit (.bool false)], args := [d1, d2] }
  | _ => none }
def GroupMayWrongFalsely : Prop := groupMayRow.holds Try.pinned (OpenSpec.ofChange groupMayWrong)

/-- 'ferrulelaw06.GroupAgrees': WHATEVER THE INPUT: true; the input reads as it did. -/
def groupAgreesSpec : ChangeSpec := { name := "groupAgrees", fn := fun _ => fun
  | [d1, d2] => { results := [.lit (.bool true)], args := [d1, d2] }
  | _ => none }
def groupAgreesRow : OpenClaim := { program := "ytmnakfonfpdneaa", sum := "69399ef84f4176cb9cf603243882f8d87c6a37d92dccb54aa49b44f163524ee1", func := "ferrule/ferrulelaw06.GroupAgrees", spec := "groupAgrees", inPlace := ["slices.overlaps[uint64]"], unfollowed := true, recurses := true, apart := false }
def GroupAgreesSaid : Prop := groupAgreesRow.holds Try.pinned (OpenSpec.ofChange groupAgreesSpec)

/-- ITS FALSE NEIGHBOUR: 'it returns false'. Refute it at one input. -/
def groupAgreesWrong : ChangeSpec := { name := "groupAgrees", fn := fun _ => fun
  | [d1, d2] => { results := [.lit (.bool false)], args := [d1, d2] }
  | _ => none }
def GroupAgreesWrongFalsely : Prop := groupAgreesRow.holds Try.pinned (OpenSpec.ofChange groupAgreesWrong)

/-- 'ferrulelaw06.GroupChanges': WHATEVER THE INPUT: true; the input reads as it did. -/
def groupChangesSpec : ChangeSpec := { name := "groupChanges", fn := fun _ => fun
  | [d1, d2] => { results := [.lit (.bool true)], args := [d1, d2] }
  | _ => none }
def groupChangesRow : OpenClaim := { program := "ytmnakfonfpdneaa", sum := "69399ef84f4176cb9cf603243882f8d87c6a37d92dccb54aa49b44f163524ee1", func := "ferrule/ferrulelaw06.GroupChanges", spec := "groupChanges", inPlace := ["slices.overlaps[uint64]"], unfollowed := true, recurses := true, apart := false }
def GroupChangesSaid : Prop := groupChangesRow.holds Try.pinned (OpenSpec.ofChange groupChangesSpec)

/-- ITS FALSE NEIGHBOUR: 'it returns false'. Refute it at one input. -/
def groupChangesWrong : ChangeSpec := { name := "groupChanges", fn := fun _ => fun
  | [d1, d2] => { results := [.lit (.bool false)], args := [d1, d2] }
  | _ => none }
def GroupChangesWrongFalsely : Prop := groupChangesRow.holds Try.pinned (OpenSpec.ofChange groupChangesWrong)

/-- 'ferrulelaw06.GroupMarks': WHATEVER THE INPUT: true; the input reads as it did. -/
def groupMarksSpec : ChangeSpec := { name := "groupMarks", fn := fun _ => fun
  | [d1, d2, d3] => { results := [.lit (.bool true)], args := [d1, d2, d3] }
  | _ => none }
def groupMarksRow : OpenClaim := { program := "ytmnakfonfpdneaa", sum := "69399ef84f4176cb9cf603243882f8d87c6a37d92dccb54aa49b44f163524ee1", func := "ferrule/ferrulelaw06.GroupMarks", spec := "groupMarks", inPlace := ["slices.overlaps[uint64]"], unfollowed := true, recurses := true, apart := false }
def GroupMarksSaid : Prop := groupMarksRow.holds Try.pinned (OpenSpec.ofChange groupMarksSpec)

/-- ITS FALSE NEIGHBOUR: 'it returns false'. Refute it at one input. -/
def groupMarksWrong : ChangeSpec := { name := "groupMarks", fn := fun _ => fun
  | [d1, d2, d3] => { results := [.lit (.bool false)], args := [d1, d2, d3] }
  | _ => none }
def GroupMarksWrongFalsely : Prop := groupMarksRow.holds Try.pinned (OpenSpec.ofChange groupMarksWrong)

/-- 'ferrulelaw06.GroupMeets': WHATEVER THE INPUT: true; the input reads as it did. -/
def groupMeetsSpec : ChangeSpec := { name := "groupMeets", fn := fun _ => fun
  | [d] => { results := [.lit (.bool true)], args := [d] }
  | _ => none }
def groupMeetsRow : OpenClaim := { program := "ytmnakfonfpdneaa", sum := "69399ef84f4176cb9cf603243882f8d87c6a37d92dccb54aa49b44f163524ee1", func := "ferrule/ferrulelaw06.GroupMeets", spec := "groupMeets", inPlace := ["slices.overlaps[uint64]"], unfollowed := true, recurses := true, apart := false }
def GroupMeetsSaid : Prop := groupMeetsRow.holds Try.pinned (OpenSpec.ofChange groupMeetsSpec)

/-- ITS FALSE NEIGHBOUR: 'it returns false'. Refute it at one input. -/
def groupMeetsWrong : ChangeSpec := { name := "groupMeets", fn := fun _ => fun
  | [d] => { results := [.lit (.bool false)], args := [d] }
  | _ => none }
def GroupMeetsWrongFalsely : Prop := groupMeetsRow.holds Try.pinned (OpenSpec.ofChange groupMeetsWrong)

/-- 'ferrulelaw06.GroupRises': WHATEVER THE INPUT: true; the input reads as it did. -/
def groupRisesSpec : ChangeSpec := { name := "groupRises", fn := fun _ => fun
  | [d] => { results := [.lit (.bool true)], args := [d] }
  | _ => none }
def groupRisesRow : OpenClaim := { program := "ytmnakfonfpdneaa", sum := "69399ef84f4176cb9cf603243882f8d87c6a37d92dccb54aa49b44f163524ee1", func := "ferrule/ferrulelaw06.GroupRises", spec := "groupRises", inPlace := ["slices.overlaps[uint64]"], unfollowed := true, recurses := true, apart := false }
def GroupRisesSaid : Prop := groupRisesRow.holds Try.pinned (OpenSpec.ofChange groupRisesSpec)

/-- ITS FALSE NEIGHBOUR: 'it returns false'. Refute it at one input. -/
def groupRisesWrong : ChangeSpec := { name := "groupRises", fn := fun _ => fun
  | [d] => { results := [.lit (.bool false)], args := [d] }
  | _ => none }
def GroupRisesWrongFalsely : Prop := groupRisesRow.holds Try.pinned (OpenSpec.ofChange groupRisesWrong)

/- THE SECOND FORM. 'bulk': how many values and letters a reading holds, each counted each time it is reached (what is shared counts as often as it is met; a slice's spare places count too). A statement '..UptoSaid' is the law's where the arguments, and the package variables that the reading takes, are together of bulk at most 1048576: NARROWER than '..Said'. Prove '..Said' where nothing that the law and all that it calls make is longer than what came in: it says more and counts as full. Else prove '..UptoSaid'. A law counts once. -/
mutual
def uptoBulk {H : Type} : DataW H → Nat
  | .lit (.string bytes) => bytes.length + 1
  | .lit _ => 1
  | .nil => 1
  | .ptr d => uptoBulk d + 1
  | .slice elems spare => uptoBulkAll elems + uptoBulkAll spare + 1
  | .agg parts => uptoBulkAll parts + 1
  | .iface _ d => uptoBulk d + 1
  | .map entries => uptoBulkEntries entries + 1
  | .held _ => 1
def uptoBulkAll {H : Type} : List (DataW H) → Nat
  | [] => 0
  | d :: r => uptoBulk d + uptoBulkAll r
def uptoBulkEntries {H : Type} : List (Lit × DataW H) → Nat
  | [] => 0
  | x :: r => uptoBulkEntry x + uptoBulkEntries r
def uptoBulkEntry {H : Type} : Lit × DataW H → Nat
  | (.string bytes, d) => bytes.length + uptoBulk d + 1
  | (_, d) => uptoBulk d + 1
 end
def uptoSmall : (H : Type) → List (DataW H) → Bool := fun _ ds => decide (uptoBulkAll ds ≤ 1048576)
def OpenSpec.upto (s : _root_.Go.ChangeSpec) : _root_.Go.OpenSpec := { _root_.Go.OpenSpec.ofChange s with cond := some uptoSmall }

/-- 'ferrulelaw06.GroupMay', WHERE WHAT IT READS IS OF BULK AT MOST 1048576: true; the input reads as it did. -/
def groupMayUptoRow : OpenClaim := { program := "ytmnakfonfpdneaa", sum := "69399ef84f4176cb9cf603243882f8d87c6a37d92dccb54aa49b44f163524ee1", func := "ferrule/ferrulelaw06.GroupMay", spec := "groupMay", inPlace := ["slices.overlaps[uint64]"], unfollowed := true, recurses := true, apart := false, narrowed := true }
def GroupMayUptoSaid : Prop := groupMayUptoRow.holds Try.pinned (OpenSpec.upto groupMaySpec)

/-- 'ferrulelaw06.GroupAgrees', WHERE WHAT IT READS IS OF BULK AT MOST 1048576: true; the input reads as it did. -/
def groupAgreesUptoRow : OpenClaim := { program := "ytmnakfonfpdneaa", sum := "69399ef84f4176cb9cf603243882f8d87c6a37d92dccb54aa49b44f163524ee1", func := "ferrule/ferrulelaw06.GroupAgrees", spec := "groupAgrees", inPlace := ["slices.overlaps[uint64]"], unfollowed := true, recurses := true, apart := false, narrowed := true }
def GroupAgreesUptoSaid : Prop := groupAgreesUptoRow.holds Try.pinned (OpenSpec.upto groupAgreesSpec)

/-- 'ferrulelaw06.GroupChanges', WHERE WHAT IT READS IS OF BULK AT MOST 1048576: true; the input reads as it did. -/
def groupChangesUptoRow : OpenClaim := { program := "ytmnakfonfpdneaa", sum := "69399ef84f4176cb9cf603243882f8d87c6a37d92dccb54aa49b44f163524ee1", func := "ferrule/ferrulelaw06.GroupChanges", spec := "groupChanges", inPlace := ["slices.overlaps[uint64]"], unfollowed := true, recurses := true, apart := false, narrowed := true }
def GroupChangesUptoSaid : Prop := groupChangesUptoRow.holds Try.pinned (OpenSpec.upto groupChangesSpec)

/-- 'ferrulelaw06.GroupMarks', WHERE WHAT IT READS IS OF BULK AT MOST 1048576: true; the input reads as it did. -/
def groupMarksUptoRow : OpenClaim := { program := "ytmnakfonfpdneaa", sum := "69399ef84f4176cb9cf603243882f8d87c6a37d92dccb54aa49b44f163524ee1", func := "ferrule/ferrulelaw06.GroupMarks", spec := "groupMarks", inPlace := ["slices.overlaps[uint64]"], unfollowed := true, recurses := true, apart := false, narrowed := true }
def GroupMarksUptoSaid : Prop := groupMarksUptoRow.holds Try.pinned (OpenSpec.upto groupMarksSpec)

/-- 'ferrulelaw06.GroupMeets', WHERE WHAT IT READS IS OF BULK AT MOST 1048576: true; the input reads as it did. -/
def groupMeetsUptoRow : OpenClaim := { program := "ytmnakfonfpdneaa", sum := "69399ef84f4176cb9cf603243882f8d87c6a37d92dccb54aa49b44f163524ee1", func := "ferrule/ferrulelaw06.GroupMeets", spec := "groupMeets", inPlace := ["slices.overlaps[uint64]"], unfollowed := true, recurses := true, apart := false, narrowed := true }
def GroupMeetsUptoSaid : Prop := groupMeetsUptoRow.holds Try.pinned (OpenSpec.upto groupMeetsSpec)

/-- 'ferrulelaw06.GroupRises', WHERE WHAT IT READS IS OF BULK AT MOST 1048576: true; the input reads as it did. -/
def groupRisesUptoRow : OpenClaim := { program := "ytmnakfonfpdneaa", sum := "69399ef84f4176cb9cf603243882f8d87c6a37d92dccb54aa49b44f163524ee1", func := "ferrule/ferrulelaw06.GroupRises", spec := "groupRises", inPlace := ["slices.overlaps[uint64]"], unfollowed := true, recurses := true, apart := false, narrowed := true }
def GroupRisesUptoSaid : Prop := groupRisesUptoRow.holds Try.pinned (OpenSpec.upto groupRisesSpec)

end Rows
end Go.Proofs.Ytmnakfonfpdneaa
