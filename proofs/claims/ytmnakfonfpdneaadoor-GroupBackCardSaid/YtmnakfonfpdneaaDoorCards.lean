/-
  DERIVED. GIVEN WITH THE SEED: THE CARDS: each row of YtmnakfonfpdneaaDoorRows.lean that lists a variable, with what it lists TIED to the program's text (the seventh form; the later family's looks); each row that meets fmt, with fmt's text TOLD by the authors' own Lean function (tested against real Go, not proved from fmt's source: count such statements apart). THE CARD IS WHAT COUNTS. Prove the row's statement (the work); the ties are given (YtmnakfonfpdneaaDoorTie.lean); close each card by the builder's one call (the guide's Derived/Test/ToyasCard.lean, 'card_holds'). Laid BY PROGRAM, IN A SANDBOX (cutbox-door.mjs). By AI agents, Wed Nov 11 2026. No macro, syntax, notation, axiom, sorry.
-/
import Derived.Test.YtmnakfonfpdneaaDoorRows
import GoSem.ClaimSeven
namespace Go.Proofs.YtmnakfonfpdneaaDoor
namespace Rows

/-- THE TIED CARD OF 'ferrulelaw06.GroupBytes'. -/
def groupBytesCard : Claim7 := { stood := { row := groupBytesRow, standIns := [], harness := (true, "729bf25522b016282ce5120b8148c1be182412a7573250b1a56f9b0c5d58d7dc"), looks := false }, kinds := [], alts := [], laidByText := true, laidKinds := [.data, .data], laidTests := true, laidLooks := .later }
def GroupBytesCardSaid : Prop := Claim7.holds Tryd.pinned (.plain (OpenSpec.ofChange groupBytesSpec)) groupBytesCard

/-- THE TIED CARD OF 'ferrulelaw06.GroupBack'. -/
def groupBackCard : Claim7 := { stood := { row := groupBackRow, standIns := [], harness := (true, "729bf25522b016282ce5120b8148c1be182412a7573250b1a56f9b0c5d58d7dc"), looks := false }, kinds := [], alts := [], laidByText := true, laidKinds := [.data, .data], laidTests := true, laidLooks := .later }
def GroupBackCardSaid : Prop := Claim7.holds Tryd.pinned (.plain (OpenSpec.ofChange groupBackSpec)) groupBackCard

/-- THE SECOND FORM's CARD OF 'ferrulelaw06.GroupBytes'. -/
def groupBytesUptoCard : Claim7 := { stood := { row := groupBytesUptoRow, standIns := [], harness := (true, "729bf25522b016282ce5120b8148c1be182412a7573250b1a56f9b0c5d58d7dc"), looks := false }, kinds := [], alts := [], laidByText := true, laidKinds := [.data, .data], laidTests := true, laidLooks := .later }
def GroupBytesUptoCardSaid : Prop := Claim7.holds Tryd.pinned (.plain (OpenSpec.upto groupBytesSpec)) groupBytesUptoCard

/-- THE SECOND FORM's CARD OF 'ferrulelaw06.GroupBack'. -/
def groupBackUptoCard : Claim7 := { stood := { row := groupBackUptoRow, standIns := [], harness := (true, "729bf25522b016282ce5120b8148c1be182412a7573250b1a56f9b0c5d58d7dc"), looks := false }, kinds := [], alts := [], laidByText := true, laidKinds := [.data, .data], laidTests := true, laidLooks := .later }
def GroupBackUptoCardSaid : Prop := Claim7.holds Tryd.pinned (.plain (OpenSpec.upto groupBackSpec)) groupBackUptoCard
end Rows
end Go.Proofs.YtmnakfonfpdneaaDoor
