/-
  DERIVED. GIVEN WITH THE SEED: THE CARDS: each row of YtjbhnkigbobhiaaDoorRows.lean that lists a variable, with what it lists TIED to the program's text (the seventh form; the later family's looks); each row that meets fmt, with fmt's text TOLD by the authors' own Lean function (tested against real Go, not proved from fmt's source: count such statements apart). THE CARD IS WHAT COUNTS. Prove the row's statement (the work); the ties are given (YtjbhnkigbobhiaaDoorTie.lean); close each card by the builder's one call (the guide's Derived/Test/ToyasCard.lean, 'card_holds'). Laid BY PROGRAM, IN A SANDBOX (cutbox-door.mjs). By AI agents, Wed Nov 11 2026. No macro, syntax, notation, axiom, sorry.
-/
import Derived.Test.YtjbhnkigbobhiaaDoorRows
import GoSem.ClaimSeven
namespace Go.Proofs.YtjbhnkigbobhiaaDoor
namespace Rows

/-- THE TIED CARD OF 'ferrulelaw04.NoteBytes'. -/
def noteBytesCard : Claim7 := { stood := { row := noteBytesRow, standIns := [], harness := (true, "261cd9e370e8b07ac063f5c288231bb6f26f47bc7f1cf6b4fa24dba057de1f1f"), looks := false }, kinds := [], alts := [], laidByText := true, laidKinds := [.data, .data], laidTests := true, laidLooks := .later }
def NoteBytesCardSaid : Prop := Claim7.holds Tryd.pinned (.plain (OpenSpec.ofChange noteBytesSpec)) noteBytesCard

/-- THE TIED CARD OF 'ferrulelaw04.NoteBack'. -/
def noteBackCard : Claim7 := { stood := { row := noteBackRow, standIns := [], harness := (true, "261cd9e370e8b07ac063f5c288231bb6f26f47bc7f1cf6b4fa24dba057de1f1f"), looks := false }, kinds := [], alts := [], laidByText := true, laidKinds := [.data, .data], laidTests := true, laidLooks := .later }
def NoteBackCardSaid : Prop := Claim7.holds Tryd.pinned (.plain (OpenSpec.ofChange noteBackSpec)) noteBackCard

/-- THE TIED CARD OF 'ferrulelaw04.NoteLasts'. -/
def noteLastsCard : Claim7 := { stood := { row := noteLastsRow, standIns := [], harness := (true, "261cd9e370e8b07ac063f5c288231bb6f26f47bc7f1cf6b4fa24dba057de1f1f"), looks := false }, kinds := [], alts := [], laidByText := true, laidKinds := [.data, .data], laidTests := true, laidLooks := .later }
def NoteLastsCardSaid : Prop := Claim7.holds Tryd.pinned (.plain (OpenSpec.ofChange noteLastsSpec)) noteLastsCard

/-- THE SECOND FORM's CARD OF 'ferrulelaw04.NoteBytes'. -/
def noteBytesUptoCard : Claim7 := { stood := { row := noteBytesUptoRow, standIns := [], harness := (true, "261cd9e370e8b07ac063f5c288231bb6f26f47bc7f1cf6b4fa24dba057de1f1f"), looks := false }, kinds := [], alts := [], laidByText := true, laidKinds := [.data, .data], laidTests := true, laidLooks := .later }
def NoteBytesUptoCardSaid : Prop := Claim7.holds Tryd.pinned (.plain (OpenSpec.upto noteBytesSpec)) noteBytesUptoCard

/-- THE SECOND FORM's CARD OF 'ferrulelaw04.NoteBack'. -/
def noteBackUptoCard : Claim7 := { stood := { row := noteBackUptoRow, standIns := [], harness := (true, "261cd9e370e8b07ac063f5c288231bb6f26f47bc7f1cf6b4fa24dba057de1f1f"), looks := false }, kinds := [], alts := [], laidByText := true, laidKinds := [.data, .data], laidTests := true, laidLooks := .later }
def NoteBackUptoCardSaid : Prop := Claim7.holds Tryd.pinned (.plain (OpenSpec.upto noteBackSpec)) noteBackUptoCard

/-- THE SECOND FORM's CARD OF 'ferrulelaw04.NoteLasts'. -/
def noteLastsUptoCard : Claim7 := { stood := { row := noteLastsUptoRow, standIns := [], harness := (true, "261cd9e370e8b07ac063f5c288231bb6f26f47bc7f1cf6b4fa24dba057de1f1f"), looks := false }, kinds := [], alts := [], laidByText := true, laidKinds := [.data, .data], laidTests := true, laidLooks := .later }
def NoteLastsUptoCardSaid : Prop := Claim7.holds Tryd.pinned (.plain (OpenSpec.upto noteLastsSpec)) noteLastsUptoCard
end Rows
end Go.Proofs.YtjbhnkigbobhiaaDoor
