/-
  NARROWER THAN 'FOR EVERY INPUT', by the rows' own cells (each row's printed sentence says how): RowsRight: laid · RowsFits: laid · RowsDo: laid · RowsAll: laid · RowsBytes: laid · RowsKeeps: laid · RowsBack: laid.
  DERIVED. THE GIVEN ROWS OF THIS SEAT. 7 by the template 'for every input the law returns true; each argument reads behind the call as it read before'; 0 by the template 'total and deterministic' (their statements: YtifdgjmbecilhaaDoorTotals.lean).
  GIVEN WITH THE SEED: the statements are not yours to turn. If you find one false, say at which input.
  Laid BY PROGRAM, IN A SANDBOX (cutbox-rows.mjs): the forced cells as the released guide's own fill.sh prints them over the translation 43597fe612e93937… (all of the seat's roots in one cut). By AI agents, Wed Nov 11 2026. No macro, syntax, notation, axiom, sorry.
-/
import Derived.Test.YtifdgjmbecilhaaDoorChecked
import GoSem.Claim
import GoSem.ClaimJoined
import GoSem.ClaimMapViews
import Derived.JoinedTies
import Derived.KernelRfl
namespace Go.Proofs.YtifdgjmbecilhaaDoor
/- THE CELL 'sum', in the pinned program and in every row, IS THE sha256 OF THE DUMP (.gsa) THAT YtifdgjmbecilhaaDoorProg.lean LOADS. Nothing in Lean hashes anything: it is a label: what it is worth is what the hold of that sum in a sandbox is worth. -/
noncomputable def Tryd.pinned : Pinned := { name := "ytifdgjmbecilhaadoor", sum := "43597fe612e93937ad82d2b733c2a0ac1092415e3689a858d191e6f7fd4f9093", checked := Tryd.checked }
namespace Rows
def none {H : Type} : Left H := { results := [], args := [] }

/- WHAT THE LISTED PACKAGE-LEVEL VARIABLES READ AS WHEN THE CALL BEGINS. Each datum BY PROGRAM (the guide's laid-datum.mjs) off the statement by which the dump's own 'gosem.cut.vars' lays the variable. In a bare row this is a premise. The card (YtifdgjmbecilhaaDoorCards.lean) ties it to the program's text. -/
def laid_math_bits_deBruijn32tab {H : Type} : DataW H := .agg [.lit (.int .u8 0), .lit (.int .u8 1), .lit (.int .u8 28), .lit (.int .u8 2), .lit (.int .u8 29), .lit (.int .u8 14), .lit (.int .u8 24), .lit (.int .u8 3), .lit (.int .u8 30), .lit (.int .u8 22), .lit (.int .u8 20), .lit (.int .u8 15), .lit (.int .u8 25), .lit (.int .u8 17), .lit (.int .u8 4), .lit (.int .u8 8), .lit (.int .u8 31), .lit (.int .u8 27), .lit (.int .u8 13), .lit (.int .u8 23), .lit (.int .u8 21), .lit (.int .u8 19), .lit (.int .u8 16), .lit (.int .u8 7), .lit (.int .u8 26), .lit (.int .u8 12), .lit (.int .u8 18), .lit (.int .u8 6), .lit (.int .u8 11), .lit (.int .u8 5), .lit (.int .u8 10), .lit (.int .u8 9)]
def laid_math_bits_deBruijn64tab {H : Type} : DataW H := .agg [.lit (.int .u8 0), .lit (.int .u8 1), .lit (.int .u8 56), .lit (.int .u8 2), .lit (.int .u8 57), .lit (.int .u8 49), .lit (.int .u8 28), .lit (.int .u8 3), .lit (.int .u8 61), .lit (.int .u8 58), .lit (.int .u8 42), .lit (.int .u8 50), .lit (.int .u8 38), .lit (.int .u8 29), .lit (.int .u8 17), .lit (.int .u8 4), .lit (.int .u8 62), .lit (.int .u8 47), .lit (.int .u8 59), .lit (.int .u8 36), .lit (.int .u8 45), .lit (.int .u8 43), .lit (.int .u8 51), .lit (.int .u8 22), .lit (.int .u8 53), .lit (.int .u8 39), .lit (.int .u8 33), .lit (.int .u8 30), .lit (.int .u8 24), .lit (.int .u8 18), .lit (.int .u8 12), .lit (.int .u8 5), .lit (.int .u8 63), .lit (.int .u8 55), .lit (.int .u8 48), .lit (.int .u8 27), .lit (.int .u8 60), .lit (.int .u8 41), .lit (.int .u8 37), .lit (.int .u8 16), .lit (.int .u8 46), .lit (.int .u8 35), .lit (.int .u8 44), .lit (.int .u8 21), .lit (.int .u8 52), .lit (.int .u8 32), .lit (.int .u8 23), .lit (.int .u8 11), .lit (.int .u8 54), .lit (.int .u8 26), .lit (.int .u8 40), .lit (.int .u8 15), .lit (.int .u8 34), .lit (.int .u8 20), .lit (.int .u8 31), .lit (.int .u8 10), .lit (.int .u8 25), .lit (.int .u8 14), .lit (.int .u8 19), .lit (.int .u8 9), .lit (.int .u8 13), .lit (.int .u8 8), .lit (.int .u8 7), .lit (.int .u8 6)]

/-- 'ferrulelaw11.RowsRight': WHATEVER THE INPUT: true; the input reads as it did. -/
def rowsRightSpec : ChangeSpec := { name := "rowsRight", fn := fun _ => fun
  | [d1, d2] => { results := [.lit (.bool true)], args := [d1, d2] }
  | _ => none }
def rowsRightRow : OpenClaim := { program := "ytifdgjmbecilhaadoor", sum := "43597fe612e93937ad82d2b733c2a0ac1092415e3689a858d191e6f7fd4f9093", func := "ferrule/ferrulelaw11.RowsRight", spec := "rowsRight", inPlace := ["slices.overlaps[ferrule/api.Row]", "internal/abi.NoEscape"], unfollowed := true, recurses := true, named := ["math/bits.deBruijn32tab", "math/bits.deBruijn64tab"], apart := false, laid := [("math/bits.deBruijn32tab", laid_math_bits_deBruijn32tab), ("math/bits.deBruijn64tab", laid_math_bits_deBruijn64tab)] }
def RowsRightSaid : Prop := rowsRightRow.holds Tryd.pinned (OpenSpec.ofChange rowsRightSpec)

/-- ITS FALSE NEIGHBOUR: 'it returns false'. Refute it at one input. -/
def rowsRightWrong : ChangeSpec := { name := "rowsRight", fn := fun _ => fun
  | [d1, d2] => { results := [.lit (.bool false)], args := [d1, d2] }
  | _ => none }
def RowsRightWrongFalsely : Prop := rowsRightRow.holds Tryd.pinned (OpenSpec.ofChange rowsRightWrong)

/-- 'ferrulelaw11.RowsFits': WHATEVER THE INPUT: true; the input reads as it did. -/
def rowsFitsSpec : ChangeSpec := { name := "rowsFits", fn := fun _ => fun
  | [d] => { results := [.lit (.bool true)], args := [d] }
  | _ => none }
def rowsFitsRow : OpenClaim := { program := "ytifdgjmbecilhaadoor", sum := "43597fe612e93937ad82d2b733c2a0ac1092415e3689a858d191e6f7fd4f9093", func := "ferrule/ferrulelaw11.RowsFits", spec := "rowsFits", inPlace := ["slices.overlaps[ferrule/api.Row]", "internal/abi.NoEscape"], unfollowed := true, recurses := true, named := ["math/bits.deBruijn32tab", "math/bits.deBruijn64tab"], apart := false, laid := [("math/bits.deBruijn32tab", laid_math_bits_deBruijn32tab), ("math/bits.deBruijn64tab", laid_math_bits_deBruijn64tab)] }
def RowsFitsSaid : Prop := rowsFitsRow.holds Tryd.pinned (OpenSpec.ofChange rowsFitsSpec)

/-- ITS FALSE NEIGHBOUR: 'it returns false'. Refute it at one input. -/
def rowsFitsWrong : ChangeSpec := { name := "rowsFits", fn := fun _ => fun
  | [d] => { results := [.lit (.bool false)], args := [d] }
  | _ => none }
def RowsFitsWrongFalsely : Prop := rowsFitsRow.holds Tryd.pinned (OpenSpec.ofChange rowsFitsWrong)

/-- 'ferrulelaw11.RowsDo': WHATEVER THE INPUT: true; the input reads as it did. -/
def rowsDoSpec : ChangeSpec := { name := "rowsDo", fn := fun _ => fun
  | [d1, d2, d3] => { results := [.lit (.bool true)], args := [d1, d2, d3] }
  | _ => none }
def rowsDoRow : OpenClaim := { program := "ytifdgjmbecilhaadoor", sum := "43597fe612e93937ad82d2b733c2a0ac1092415e3689a858d191e6f7fd4f9093", func := "ferrule/ferrulelaw11.RowsDo", spec := "rowsDo", inPlace := ["slices.overlaps[ferrule/api.Row]", "internal/abi.NoEscape"], unfollowed := true, recurses := true, named := ["math/bits.deBruijn32tab", "math/bits.deBruijn64tab"], apart := false, laid := [("math/bits.deBruijn32tab", laid_math_bits_deBruijn32tab), ("math/bits.deBruijn64tab", laid_math_bits_deBruijn64tab)] }
def RowsDoSaid : Prop := rowsDoRow.holds Tryd.pinned (OpenSpec.ofChange rowsDoSpec)

/-- ITS FALSE NEIGHBOUR: 'it returns false'. Refute it at one input. -/
def rowsDoWrong : ChangeSpec := { name := "rowsDo", fn := fun _ => fun
  | [d1, d2, d3] => { results := [.lit (.bool false)], args := [d1, d2, d3] }
  | _ => none }
def RowsDoWrongFalsely : Prop := rowsDoRow.holds Tryd.pinned (OpenSpec.ofChange rowsDoWrong)

/-- 'ferrulelaw11.RowsAll': WHATEVER THE INPUT: true; the input reads as it did. -/
def rowsAllSpec : ChangeSpec := { name := "rowsAll", fn := fun _ => fun
  | [d1, d2, d3] => { results := [.lit (.bool true)], args := [d1, d2, d3] }
  | _ => none }
def rowsAllRow : OpenClaim := { program := "ytifdgjmbecilhaadoor", sum := "43597fe612e93937ad82d2b733c2a0ac1092415e3689a858d191e6f7fd4f9093", func := "ferrule/ferrulelaw11.RowsAll", spec := "rowsAll", inPlace := ["slices.overlaps[ferrule/api.Row]", "internal/abi.NoEscape"], unfollowed := true, recurses := true, named := ["math/bits.deBruijn32tab", "math/bits.deBruijn64tab"], apart := false, laid := [("math/bits.deBruijn32tab", laid_math_bits_deBruijn32tab), ("math/bits.deBruijn64tab", laid_math_bits_deBruijn64tab)] }
def RowsAllSaid : Prop := rowsAllRow.holds Tryd.pinned (OpenSpec.ofChange rowsAllSpec)

/-- ITS FALSE NEIGHBOUR: 'it returns false'. Refute it at one input. -/
def rowsAllWrong : ChangeSpec := { name := "rowsAll", fn := fun _ => fun
  | [d1, d2, d3] => { results := [.lit (.bool false)], args := [d1, d2, d3] }
  | _ => none }
def RowsAllWrongFalsely : Prop := rowsAllRow.holds Tryd.pinned (OpenSpec.ofChange rowsAllWrong)

/-- 'ferrulelaw11.RowsBytes': WHATEVER THE INPUT: true; the input reads as it did. -/
def rowsBytesSpec : ChangeSpec := { name := "rowsBytes", fn := fun _ => fun
  | [d1, d2] => { results := [.lit (.bool true)], args := [d1, d2] }
  | _ => none }
def rowsBytesRow : OpenClaim := { program := "ytifdgjmbecilhaadoor", sum := "43597fe612e93937ad82d2b733c2a0ac1092415e3689a858d191e6f7fd4f9093", func := "ferrule/ferrulelaw11.RowsBytes", spec := "rowsBytes", inPlace := ["slices.overlaps[ferrule/api.Row]", "internal/abi.NoEscape"], unfollowed := true, recurses := true, named := ["math/bits.deBruijn32tab", "math/bits.deBruijn64tab"], apart := false, laid := [("math/bits.deBruijn32tab", laid_math_bits_deBruijn32tab), ("math/bits.deBruijn64tab", laid_math_bits_deBruijn64tab)] }
def RowsBytesSaid : Prop := rowsBytesRow.holds Tryd.pinned (OpenSpec.ofChange rowsBytesSpec)

/-- ITS FALSE NEIGHBOUR: 'it returns false'. Refute it at one input. -/
def rowsBytesWrong : ChangeSpec := { name := "rowsBytes", fn := fun _ => fun
  | [d1, d2] => { results := [.lit (.bool false)], args := [d1, d2] }
  | _ => none }
def RowsBytesWrongFalsely : Prop := rowsBytesRow.holds Tryd.pinned (OpenSpec.ofChange rowsBytesWrong)

/-- 'ferrulelaw11.RowsKeeps': WHATEVER THE INPUT: true; the input reads as it did. -/
def rowsKeepsSpec : ChangeSpec := { name := "rowsKeeps", fn := fun _ => fun
  | [d] => { results := [.lit (.bool true)], args := [d] }
  | _ => none }
def rowsKeepsRow : OpenClaim := { program := "ytifdgjmbecilhaadoor", sum := "43597fe612e93937ad82d2b733c2a0ac1092415e3689a858d191e6f7fd4f9093", func := "ferrule/ferrulelaw11.RowsKeeps", spec := "rowsKeeps", inPlace := ["slices.overlaps[ferrule/api.Row]", "internal/abi.NoEscape"], unfollowed := true, recurses := true, named := ["math/bits.deBruijn32tab", "math/bits.deBruijn64tab"], apart := false, laid := [("math/bits.deBruijn32tab", laid_math_bits_deBruijn32tab), ("math/bits.deBruijn64tab", laid_math_bits_deBruijn64tab)] }
def RowsKeepsSaid : Prop := rowsKeepsRow.holds Tryd.pinned (OpenSpec.ofChange rowsKeepsSpec)

/-- ITS FALSE NEIGHBOUR: 'it returns false'. Refute it at one input. -/
def rowsKeepsWrong : ChangeSpec := { name := "rowsKeeps", fn := fun _ => fun
  | [d] => { results := [.lit (.bool false)], args := [d] }
  | _ => none }
def RowsKeepsWrongFalsely : Prop := rowsKeepsRow.holds Tryd.pinned (OpenSpec.ofChange rowsKeepsWrong)

/-- 'ferrulelaw11.RowsBack': WHATEVER THE INPUT: true; the input reads as it did. -/
def rowsBackSpec : ChangeSpec := { name := "rowsBack", fn := fun _ => fun
  | [d1, d2] => { results := [.lit (.bool true)], args := [d1, d2] }
  | _ => none }
def rowsBackRow : OpenClaim := { program := "ytifdgjmbecilhaadoor", sum := "43597fe612e93937ad82d2b733c2a0ac1092415e3689a858d191e6f7fd4f9093", func := "ferrule/ferrulelaw11.RowsBack", spec := "rowsBack", inPlace := ["slices.overlaps[ferrule/api.Row]", "internal/abi.NoEscape"], unfollowed := true, recurses := true, named := ["math/bits.deBruijn32tab", "math/bits.deBruijn64tab"], apart := false, laid := [("math/bits.deBruijn32tab", laid_math_bits_deBruijn32tab), ("math/bits.deBruijn64tab", laid_math_bits_deBruijn64tab)] }
def RowsBackSaid : Prop := rowsBackRow.holds Tryd.pinned (OpenSpec.ofChange rowsBackSpec)

/-- ITS FALSE NEIGHBOUR: 'it returns false'. Refute it at one input. -/
def rowsBackWrong : ChangeSpec := { name := "rowsBack", fn := fun _ => fun
  | [d1, d2] => { results := [.lit (.bool false)], args := [d1, d2] }
  | _ => none }
def RowsBackWrongFalsely : Prop := rowsBackRow.holds Tryd.pinned (OpenSpec.ofChange rowsBackWrong)

/- THE SECOND FORM. 'bulk': how many values and letters a reading holds, each counted each time it is reached (what is shared counts as often as it is met; a slice's spare places count too). A statement '..UptoSaid' is the law's where the arguments, and the package variables that the reading takes, are together of bulk at most 1048576: NARROWER than '..Said'. Prove '..Said' where nothing that the law and all that it calls make is longer than what came in: it says more and counts as full. Else prove '..UptoSaid'. A law counts once. -/
mutual
def uptoBulk {H : Type} : DataW H → Nat
  | .lit (.string bytes) => bytes.length + 1
  | .lit _ => 1
  | .nil => 1
  | .ptr d => uptoBulk d + 1
  | .slice elems spare => uptoBulkAll elems + uptoBulkAll spare + 1
  | .agg parts => uptoBulkAll parts + 1
  | .iface _ d => uptoBulk d + 1
  | .map entries => uptoBulkEntries entries + 1
  | .held _ => 1
def uptoBulkAll {H : Type} : List (DataW H) → Nat
  | [] => 0
  | d :: r => uptoBulk d + uptoBulkAll r
def uptoBulkEntries {H : Type} : List (Lit × DataW H) → Nat
  | [] => 0
  | x :: r => uptoBulkEntry x + uptoBulkEntries r
def uptoBulkEntry {H : Type} : Lit × DataW H → Nat
  | (.string bytes, d) => bytes.length + uptoBulk d + 1
  | (_, d) => uptoBulk d + 1
 end
def uptoSmall : (H : Type) → List (DataW H) → Bool := fun _ ds => decide (uptoBulkAll ds ≤ 1048576)
def OpenSpec.upto (s : _root_.Go.ChangeSpec) : _root_.Go.OpenSpec := { _root_.Go.OpenSpec.ofChange s with cond := some uptoSmall }

/-- 'ferrulelaw11.RowsRight', WHERE WHAT IT READS IS OF BULK AT MOST 1048576: true; the input reads as it did. -/
def rowsRightUptoRow : OpenClaim := { program := "ytifdgjmbecilhaadoor", sum := "43597fe612e93937ad82d2b733c2a0ac1092415e3689a858d191e6f7fd4f9093", func := "ferrule/ferrulelaw11.RowsRight", spec := "rowsRight", inPlace := ["slices.overlaps[ferrule/api.Row]", "internal/abi.NoEscape"], unfollowed := true, recurses := true, named := ["math/bits.deBruijn32tab", "math/bits.deBruijn64tab"], apart := false, laid := [("math/bits.deBruijn32tab", laid_math_bits_deBruijn32tab), ("math/bits.deBruijn64tab", laid_math_bits_deBruijn64tab)], narrowed := true }
def RowsRightUptoSaid : Prop := rowsRightUptoRow.holds Tryd.pinned (OpenSpec.upto rowsRightSpec)

/-- 'ferrulelaw11.RowsFits', WHERE WHAT IT READS IS OF BULK AT MOST 1048576: true; the input reads as it did. -/
def rowsFitsUptoRow : OpenClaim := { program := "ytifdgjmbecilhaadoor", sum := "43597fe612e93937ad82d2b733c2a0ac1092415e3689a858d191e6f7fd4f9093", func := "ferrule/ferrulelaw11.RowsFits", spec := "rowsFits", inPlace := ["slices.overlaps[ferrule/api.Row]", "internal/abi.NoEscape"], unfollowed := true, recurses := true, named := ["math/bits.deBruijn32tab", "math/bits.deBruijn64tab"], apart := false, laid := [("math/bits.deBruijn32tab", laid_math_bits_deBruijn32tab), ("math/bits.deBruijn64tab", laid_math_bits_deBruijn64tab)], narrowed := true }
def RowsFitsUptoSaid : Prop := rowsFitsUptoRow.holds Tryd.pinned (OpenSpec.upto rowsFitsSpec)

/-- 'ferrulelaw11.RowsDo', WHERE WHAT IT READS IS OF BULK AT MOST 1048576: true; the input reads as it did. -/
def rowsDoUptoRow : OpenClaim := { program := "ytifdgjmbecilhaadoor", sum := "43597fe612e93937ad82d2b733c2a0ac1092415e3689a858d191e6f7fd4f9093", func := "ferrule/ferrulelaw11.RowsDo", spec := "rowsDo", inPlace := ["slices.overlaps[ferrule/api.Row]", "internal/abi.NoEscape"], unfollowed := true, recurses := true, named := ["math/bits.deBruijn32tab", "math/bits.deBruijn64tab"], apart := false, laid := [("math/bits.deBruijn32tab", laid_math_bits_deBruijn32tab), ("math/bits.deBruijn64tab", laid_math_bits_deBruijn64tab)], narrowed := true }
def RowsDoUptoSaid : Prop := rowsDoUptoRow.holds Tryd.pinned (OpenSpec.upto rowsDoSpec)

/-- 'ferrulelaw11.RowsAll', WHERE WHAT IT READS IS OF BULK AT MOST 1048576: true; the input reads as it did. -/
def rowsAllUptoRow : OpenClaim := { program := "ytifdgjmbecilhaadoor", sum := "43597fe612e93937ad82d2b733c2a0ac1092415e3689a858d191e6f7fd4f9093", func := "ferrule/ferrulelaw11.RowsAll", spec := "rowsAll", inPlace := ["slices.overlaps[ferrule/api.Row]", "internal/abi.NoEscape"], unfollowed := true, recurses := true, named := ["math/bits.deBruijn32tab", "math/bits.deBruijn64tab"], apart := false, laid := [("math/bits.deBruijn32tab", laid_math_bits_deBruijn32tab), ("math/bits.deBruijn64tab", laid_math_bits_deBruijn64tab)], narrowed := true }
def RowsAllUptoSaid : Prop := rowsAllUptoRow.holds Tryd.pinned (OpenSpec.upto rowsAllSpec)

/-- 'ferrulelaw11.RowsBytes', WHERE WHAT IT READS IS OF BULK AT MOST 1048576: true; the input reads as it did. -/
def rowsBytesUptoRow : OpenClaim := { program := "ytifdgjmbecilhaadoor", sum := "43597fe612e93937ad82d2b733c2a0ac1092415e3689a858d191e6f7fd4f9093", func := "ferrule/ferrulelaw11.RowsBytes", spec := "rowsBytes", inPlace := ["slices.overlaps[ferrule/api.Row]", "internal/abi.NoEscape"], unfollowed := true, recurses := true, named := ["math/bits.deBruijn32tab", "math/bits.deBruijn64tab"], apart := false, laid := [("math/bits.deBruijn32tab", laid_math_bits_deBruijn32tab), ("math/bits.deBruijn64tab", laid_math_bits_deBruijn64tab)], narrowed := true }
def RowsBytesUptoSaid : Prop := rowsBytesUptoRow.holds Tryd.pinned (OpenSpec.upto rowsBytesSpec)

/-- 'ferrulelaw11.RowsKeeps', WHERE WHAT IT READS IS OF BULK AT MOST 1048576: true; the input reads as it did. -/
def rowsKeepsUptoRow : OpenClaim := { program := "ytifdgjmbecilhaadoor", sum := "43597fe612e93937ad82d2b733c2a0ac1092415e3689a858d191e6f7fd4f9093", func := "ferrule/ferrulelaw11.RowsKeeps", spec := "rowsKeeps", inPlace := ["slices.overlaps[ferrule/api.Row]", "internal/abi.NoEscape"], unfollowed := true, recurses := true, named := ["math/bits.deBruijn32tab", "math/bits.deBruijn64tab"], apart := false, laid := [("math/bits.deBruijn32tab", laid_math_bits_deBruijn32tab), ("math/bits.deBruijn64tab", laid_math_bits_deBruijn64tab)], narrowed := true }
def RowsKeepsUptoSaid : Prop := rowsKeepsUptoRow.holds Tryd.pinned (OpenSpec.upto rowsKeepsSpec)

/-- 'ferrulelaw11.RowsBack', WHERE WHAT IT READS IS OF BULK AT MOST 1048576: true; the input reads as it did. -/
def rowsBackUptoRow : OpenClaim := { program := "ytifdgjmbecilhaadoor", sum := "43597fe612e93937ad82d2b733c2a0ac1092415e3689a858d191e6f7fd4f9093", func := "ferrule/ferrulelaw11.RowsBack", spec := "rowsBack", inPlace := ["slices.overlaps[ferrule/api.Row]", "internal/abi.NoEscape"], unfollowed := true, recurses := true, named := ["math/bits.deBruijn32tab", "math/bits.deBruijn64tab"], apart := false, laid := [("math/bits.deBruijn32tab", laid_math_bits_deBruijn32tab), ("math/bits.deBruijn64tab", laid_math_bits_deBruijn64tab)], narrowed := true }
def RowsBackUptoSaid : Prop := rowsBackUptoRow.holds Tryd.pinned (OpenSpec.upto rowsBackSpec)

end Rows
end Go.Proofs.YtifdgjmbecilhaaDoor
