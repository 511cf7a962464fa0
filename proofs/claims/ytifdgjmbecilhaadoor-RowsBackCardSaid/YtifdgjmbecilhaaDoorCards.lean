/-
  DERIVED. GIVEN WITH THE SEED: THE CARDS: each row of YtifdgjmbecilhaaDoorRows.lean that lists a variable, with what it lists TIED to the program's text (the seventh form; the later family's looks); each row that meets fmt, with fmt's text TOLD by the authors' own Lean function (tested against real Go, not proved from fmt's source: count such statements apart). THE CARD IS WHAT COUNTS. Prove the row's statement (the work); the ties are given (YtifdgjmbecilhaaDoorTie.lean); close each card by the builder's one call (the guide's Derived/Test/ToyasCard.lean, 'card_holds'). Laid BY PROGRAM, IN A SANDBOX (cutbox-door.mjs). By AI agents, Wed Nov 11 2026. No macro, syntax, notation, axiom, sorry.
-/
import Derived.Test.YtifdgjmbecilhaaDoorRows
import GoSem.ClaimSeven
namespace Go.Proofs.YtifdgjmbecilhaaDoor
namespace Rows

/-- THE TIED CARD OF 'ferrulelaw11.RowsRight'. -/
def rowsRightCard : Claim7 := { stood := { row := rowsRightRow, standIns := [], harness := (true, "df29842798ac42a12ddce817468fd7547fb909d7d7b2067392be660ffc56b1a3"), looks := false }, kinds := [], alts := [], laidByText := true, laidKinds := [.data, .data], laidTests := true, laidLooks := .later }
def RowsRightCardSaid : Prop := Claim7.holds Tryd.pinned (.plain (OpenSpec.ofChange rowsRightSpec)) rowsRightCard

/-- THE TIED CARD OF 'ferrulelaw11.RowsFits'. -/
def rowsFitsCard : Claim7 := { stood := { row := rowsFitsRow, standIns := [], harness := (true, "df29842798ac42a12ddce817468fd7547fb909d7d7b2067392be660ffc56b1a3"), looks := false }, kinds := [], alts := [], laidByText := true, laidKinds := [.data, .data], laidTests := true, laidLooks := .later }
def RowsFitsCardSaid : Prop := Claim7.holds Tryd.pinned (.plain (OpenSpec.ofChange rowsFitsSpec)) rowsFitsCard

/-- THE TIED CARD OF 'ferrulelaw11.RowsDo'. -/
def rowsDoCard : Claim7 := { stood := { row := rowsDoRow, standIns := [], harness := (true, "df29842798ac42a12ddce817468fd7547fb909d7d7b2067392be660ffc56b1a3"), looks := false }, kinds := [], alts := [], laidByText := true, laidKinds := [.data, .data], laidTests := true, laidLooks := .later }
def RowsDoCardSaid : Prop := Claim7.holds Tryd.pinned (.plain (OpenSpec.ofChange rowsDoSpec)) rowsDoCard

/-- THE TIED CARD OF 'ferrulelaw11.RowsAll'. -/
def rowsAllCard : Claim7 := { stood := { row := rowsAllRow, standIns := [], harness := (true, "df29842798ac42a12ddce817468fd7547fb909d7d7b2067392be660ffc56b1a3"), looks := false }, kinds := [], alts := [], laidByText := true, laidKinds := [.data, .data], laidTests := true, laidLooks := .later }
def RowsAllCardSaid : Prop := Claim7.holds Tryd.pinned (.plain (OpenSpec.ofChange rowsAllSpec)) rowsAllCard

/-- THE TIED CARD OF 'ferrulelaw11.RowsBytes'. -/
def rowsBytesCard : Claim7 := { stood := { row := rowsBytesRow, standIns := [], harness := (true, "df29842798ac42a12ddce817468fd7547fb909d7d7b2067392be660ffc56b1a3"), looks := false }, kinds := [], alts := [], laidByText := true, laidKinds := [.data, .data], laidTests := true, laidLooks := .later }
def RowsBytesCardSaid : Prop := Claim7.holds Tryd.pinned (.plain (OpenSpec.ofChange rowsBytesSpec)) rowsBytesCard

/-- THE TIED CARD OF 'ferrulelaw11.RowsKeeps'. -/
def rowsKeepsCard : Claim7 := { stood := { row := rowsKeepsRow, standIns := [], harness := (true, "df29842798ac42a12ddce817468fd7547fb909d7d7b2067392be660ffc56b1a3"), looks := false }, kinds := [], alts := [], laidByText := true, laidKinds := [.data, .data], laidTests := true, laidLooks := .later }
def RowsKeepsCardSaid : Prop := Claim7.holds Tryd.pinned (.plain (OpenSpec.ofChange rowsKeepsSpec)) rowsKeepsCard

/-- THE TIED CARD OF 'ferrulelaw11.RowsBack'. -/
def rowsBackCard : Claim7 := { stood := { row := rowsBackRow, standIns := [], harness := (true, "df29842798ac42a12ddce817468fd7547fb909d7d7b2067392be660ffc56b1a3"), looks := false }, kinds := [], alts := [], laidByText := true, laidKinds := [.data, .data], laidTests := true, laidLooks := .later }
def RowsBackCardSaid : Prop := Claim7.holds Tryd.pinned (.plain (OpenSpec.ofChange rowsBackSpec)) rowsBackCard

/-- THE SECOND FORM's CARD OF 'ferrulelaw11.RowsRight'. -/
def rowsRightUptoCard : Claim7 := { stood := { row := rowsRightUptoRow, standIns := [], harness := (true, "df29842798ac42a12ddce817468fd7547fb909d7d7b2067392be660ffc56b1a3"), looks := false }, kinds := [], alts := [], laidByText := true, laidKinds := [.data, .data], laidTests := true, laidLooks := .later }
def RowsRightUptoCardSaid : Prop := Claim7.holds Tryd.pinned (.plain (OpenSpec.upto rowsRightSpec)) rowsRightUptoCard

/-- THE SECOND FORM's CARD OF 'ferrulelaw11.RowsFits'. -/
def rowsFitsUptoCard : Claim7 := { stood := { row := rowsFitsUptoRow, standIns := [], harness := (true, "df29842798ac42a12ddce817468fd7547fb909d7d7b2067392be660ffc56b1a3"), looks := false }, kinds := [], alts := [], laidByText := true, laidKinds := [.data, .data], laidTests := true, laidLooks := .later }
def RowsFitsUptoCardSaid : Prop := Claim7.holds Tryd.pinned (.plain (OpenSpec.upto rowsFitsSpec)) rowsFitsUptoCard

/-- THE SECOND FORM's CARD OF 'ferrulelaw11.RowsDo'. -/
def rowsDoUptoCard : Claim7 := { stood := { row := rowsDoUptoRow, standIns := [], harness := (true, "df29842798ac42a12ddce817468fd7547fb909d7d7b2067392be660ffc56b1a3"), looks := false }, kinds := [], alts := [], laidByText := true, laidKinds := [.data, .data], laidTests := true, laidLooks := .later }
def RowsDoUptoCardSaid : Prop := Claim7.holds Tryd.pinned (.plain (OpenSpec.upto rowsDoSpec)) rowsDoUptoCard

/-- THE SECOND FORM's CARD OF 'ferrulelaw11.RowsAll'. -/
def rowsAllUptoCard : Claim7 := { stood := { row := rowsAllUptoRow, standIns := [], harness := (true, "df29842798ac42a12ddce817468fd7547fb909d7d7b2067392be660ffc56b1a3"), looks := false }, kinds := [], alts := [], laidByText := true, laidKinds := [.data, .data], laidTests := true, laidLooks := .later }
def RowsAllUptoCardSaid : Prop := Claim7.holds Tryd.pinned (.plain (OpenSpec.upto rowsAllSpec)) rowsAllUptoCard

/-- THE SECOND FORM's CARD OF 'ferrulelaw11.RowsBytes'. -/
def rowsBytesUptoCard : Claim7 := { stood := { row := rowsBytesUptoRow, standIns := [], harness := (true, "df29842798ac42a12ddce817468fd7547fb909d7d7b2067392be660ffc56b1a3"), looks := false }, kinds := [], alts := [], laidByText := true, laidKinds := [.data, .data], laidTests := true, laidLooks := .later }
def RowsBytesUptoCardSaid : Prop := Claim7.holds Tryd.pinned (.plain (OpenSpec.upto rowsBytesSpec)) rowsBytesUptoCard

/-- THE SECOND FORM's CARD OF 'ferrulelaw11.RowsKeeps'. -/
def rowsKeepsUptoCard : Claim7 := { stood := { row := rowsKeepsUptoRow, standIns := [], harness := (true, "df29842798ac42a12ddce817468fd7547fb909d7d7b2067392be660ffc56b1a3"), looks := false }, kinds := [], alts := [], laidByText := true, laidKinds := [.data, .data], laidTests := true, laidLooks := .later }
def RowsKeepsUptoCardSaid : Prop := Claim7.holds Tryd.pinned (.plain (OpenSpec.upto rowsKeepsSpec)) rowsKeepsUptoCard

/-- THE SECOND FORM's CARD OF 'ferrulelaw11.RowsBack'. -/
def rowsBackUptoCard : Claim7 := { stood := { row := rowsBackUptoRow, standIns := [], harness := (true, "df29842798ac42a12ddce817468fd7547fb909d7d7b2067392be660ffc56b1a3"), looks := false }, kinds := [], alts := [], laidByText := true, laidKinds := [.data, .data], laidTests := true, laidLooks := .later }
def RowsBackUptoCardSaid : Prop := Claim7.holds Tryd.pinned (.plain (OpenSpec.upto rowsBackSpec)) rowsBackUptoCard
end Rows
end Go.Proofs.YtifdgjmbecilhaaDoor
