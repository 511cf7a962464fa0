/-
  DERIVED. GIVEN WITH THE SEED: THE CARDS: each row of YtlpdoebmgfcfdaaDoorRows.lean that lists a variable, with what it lists TIED to the program's text (the seventh form; the later family's looks); each row that meets fmt, with fmt's text TOLD by the authors' own Lean function (tested against real Go, not proved from fmt's source: count such statements apart). THE CARD IS WHAT COUNTS. Prove the row's statement (the work); the ties are given (YtlpdoebmgfcfdaaDoorTie.lean); close each card by the builder's one call (the guide's Derived/Test/ToyasCard.lean, 'card_holds'). Laid BY PROGRAM, IN A SANDBOX (cutbox-door.mjs). By AI agents, Wed Nov 11 2026. No macro, syntax, notation, axiom, sorry.
-/
import Derived.Test.YtlpdoebmgfcfdaaDoorRows
import GoSem.ClaimSeven
namespace Go.Proofs.YtlpdoebmgfcfdaaDoor
namespace Rows

/-- THE TIED CARD OF 'ferrulelaw02.SealSums'. -/
def sealSumsCard : Claim7 := { stood := { row := sealSumsRow, standIns := [], harness := (true, "e97489c56e928fd3c2db464255c55477565ffb28381104981932a13aba3219bd"), looks := false }, kinds := [], alts := [], laidByText := true, laidKinds := [.data, .data], laidTests := true, laidLooks := .later }
def SealSumsCardSaid : Prop := Claim7.holds Tryd.pinned (.plain (OpenSpec.ofChange sealSumsSpec)) sealSumsCard

/-- THE TIED CARD OF 'ferrulelaw02.SealPuts'. -/
def sealPutsCard : Claim7 := { stood := { row := sealPutsRow, standIns := [], harness := (true, "e97489c56e928fd3c2db464255c55477565ffb28381104981932a13aba3219bd"), looks := false }, kinds := [], alts := [], laidByText := true, laidKinds := [.data, .data], laidTests := true, laidLooks := .later }
def SealPutsCardSaid : Prop := Claim7.holds Tryd.pinned (.plain (OpenSpec.ofChange sealPutsSpec)) sealPutsCard

/-- THE TIED CARD OF 'ferrulelaw02.SealTakes'. -/
def sealTakesCard : Claim7 := { stood := { row := sealTakesRow, standIns := [], harness := (true, "e97489c56e928fd3c2db464255c55477565ffb28381104981932a13aba3219bd"), looks := false }, kinds := [], alts := [], laidByText := true, laidKinds := [.data, .data], laidTests := true, laidLooks := .later }
def SealTakesCardSaid : Prop := Claim7.holds Tryd.pinned (.plain (OpenSpec.ofChange sealTakesSpec)) sealTakesCard

/-- THE TIED CARD OF 'ferrulelaw02.SealAll'. -/
def sealAllCard : Claim7 := { stood := { row := sealAllRow, standIns := [], harness := (true, "e97489c56e928fd3c2db464255c55477565ffb28381104981932a13aba3219bd"), looks := false }, kinds := [], alts := [], laidByText := true, laidKinds := [.data, .data], laidTests := true, laidLooks := .later }
def SealAllCardSaid : Prop := Claim7.holds Tryd.pinned (.plain (OpenSpec.ofChange sealAllSpec)) sealAllCard

/-- THE TIED CARD OF 'ferrulelaw02.SealBack'. -/
def sealBackCard : Claim7 := { stood := { row := sealBackRow, standIns := [], harness := (true, "e97489c56e928fd3c2db464255c55477565ffb28381104981932a13aba3219bd"), looks := false }, kinds := [], alts := [], laidByText := true, laidKinds := [.data, .data], laidTests := true, laidLooks := .later }
def SealBackCardSaid : Prop := Claim7.holds Tryd.pinned (.plain (OpenSpec.ofChange sealBackSpec)) sealBackCard

/-- THE TIED CARD OF 'ferrulelaw02.SealTurned'. -/
def sealTurnedCard : Claim7 := { stood := { row := sealTurnedRow, standIns := [], harness := (true, "e97489c56e928fd3c2db464255c55477565ffb28381104981932a13aba3219bd"), looks := false }, kinds := [], alts := [], laidByText := true, laidKinds := [.data, .data], laidTests := true, laidLooks := .later }
def SealTurnedCardSaid : Prop := Claim7.holds Tryd.pinned (.plain (OpenSpec.ofChange sealTurnedSpec)) sealTurnedCard

/-- THE TIED CARD OF 'ferrulelaw02.SealJoins'. -/
def sealJoinsCard : Claim7 := { stood := { row := sealJoinsRow, standIns := [], harness := (true, "e97489c56e928fd3c2db464255c55477565ffb28381104981932a13aba3219bd"), looks := false }, kinds := [], alts := [], laidByText := true, laidKinds := [.data, .data], laidTests := true, laidLooks := .later }
def SealJoinsCardSaid : Prop := Claim7.holds Tryd.pinned (.plain (OpenSpec.ofChange sealJoinsSpec)) sealJoinsCard

/-- THE TIED CARD OF 'ferrulelaw02.SealSizes'. -/
def sealSizesCard : Claim7 := { stood := { row := sealSizesRow, standIns := [], harness := (true, "e97489c56e928fd3c2db464255c55477565ffb28381104981932a13aba3219bd"), looks := false }, kinds := [], alts := [], laidByText := true, laidKinds := [.data, .data], laidTests := true, laidLooks := .later }
def SealSizesCardSaid : Prop := Claim7.holds Tryd.pinned (.plain (OpenSpec.ofChange sealSizesSpec)) sealSizesCard

/-- THE SECOND FORM's CARD OF 'ferrulelaw02.SealSums'. -/
def sealSumsUptoCard : Claim7 := { stood := { row := sealSumsUptoRow, standIns := [], harness := (true, "e97489c56e928fd3c2db464255c55477565ffb28381104981932a13aba3219bd"), looks := false }, kinds := [], alts := [], laidByText := true, laidKinds := [.data, .data], laidTests := true, laidLooks := .later }
def SealSumsUptoCardSaid : Prop := Claim7.holds Tryd.pinned (.plain (OpenSpec.upto sealSumsSpec)) sealSumsUptoCard

/-- THE SECOND FORM's CARD OF 'ferrulelaw02.SealPuts'. -/
def sealPutsUptoCard : Claim7 := { stood := { row := sealPutsUptoRow, standIns := [], harness := (true, "e97489c56e928fd3c2db464255c55477565ffb28381104981932a13aba3219bd"), looks := false }, kinds := [], alts := [], laidByText := true, laidKinds := [.data, .data], laidTests := true, laidLooks := .later }
def SealPutsUptoCardSaid : Prop := Claim7.holds Tryd.pinned (.plain (OpenSpec.upto sealPutsSpec)) sealPutsUptoCard

/-- THE SECOND FORM's CARD OF 'ferrulelaw02.SealTakes'. -/
def sealTakesUptoCard : Claim7 := { stood := { row := sealTakesUptoRow, standIns := [], harness := (true, "e97489c56e928fd3c2db464255c55477565ffb28381104981932a13aba3219bd"), looks := false }, kinds := [], alts := [], laidByText := true, laidKinds := [.data, .data], laidTests := true, laidLooks := .later }
def SealTakesUptoCardSaid : Prop := Claim7.holds Tryd.pinned (.plain (OpenSpec.upto sealTakesSpec)) sealTakesUptoCard

/-- THE SECOND FORM's CARD OF 'ferrulelaw02.SealAll'. -/
def sealAllUptoCard : Claim7 := { stood := { row := sealAllUptoRow, standIns := [], harness := (true, "e97489c56e928fd3c2db464255c55477565ffb28381104981932a13aba3219bd"), looks := false }, kinds := [], alts := [], laidByText := true, laidKinds := [.data, .data], laidTests := true, laidLooks := .later }
def SealAllUptoCardSaid : Prop := Claim7.holds Tryd.pinned (.plain (OpenSpec.upto sealAllSpec)) sealAllUptoCard

/-- THE SECOND FORM's CARD OF 'ferrulelaw02.SealBack'. -/
def sealBackUptoCard : Claim7 := { stood := { row := sealBackUptoRow, standIns := [], harness := (true, "e97489c56e928fd3c2db464255c55477565ffb28381104981932a13aba3219bd"), looks := false }, kinds := [], alts := [], laidByText := true, laidKinds := [.data, .data], laidTests := true, laidLooks := .later }
def SealBackUptoCardSaid : Prop := Claim7.holds Tryd.pinned (.plain (OpenSpec.upto sealBackSpec)) sealBackUptoCard

/-- THE SECOND FORM's CARD OF 'ferrulelaw02.SealTurned'. -/
def sealTurnedUptoCard : Claim7 := { stood := { row := sealTurnedUptoRow, standIns := [], harness := (true, "e97489c56e928fd3c2db464255c55477565ffb28381104981932a13aba3219bd"), looks := false }, kinds := [], alts := [], laidByText := true, laidKinds := [.data, .data], laidTests := true, laidLooks := .later }
def SealTurnedUptoCardSaid : Prop := Claim7.holds Tryd.pinned (.plain (OpenSpec.upto sealTurnedSpec)) sealTurnedUptoCard

/-- THE SECOND FORM's CARD OF 'ferrulelaw02.SealJoins'. -/
def sealJoinsUptoCard : Claim7 := { stood := { row := sealJoinsUptoRow, standIns := [], harness := (true, "e97489c56e928fd3c2db464255c55477565ffb28381104981932a13aba3219bd"), looks := false }, kinds := [], alts := [], laidByText := true, laidKinds := [.data, .data], laidTests := true, laidLooks := .later }
def SealJoinsUptoCardSaid : Prop := Claim7.holds Tryd.pinned (.plain (OpenSpec.upto sealJoinsSpec)) sealJoinsUptoCard

/-- THE SECOND FORM's CARD OF 'ferrulelaw02.SealSizes'. -/
def sealSizesUptoCard : Claim7 := { stood := { row := sealSizesUptoRow, standIns := [], harness := (true, "e97489c56e928fd3c2db464255c55477565ffb28381104981932a13aba3219bd"), looks := false }, kinds := [], alts := [], laidByText := true, laidKinds := [.data, .data], laidTests := true, laidLooks := .later }
def SealSizesUptoCardSaid : Prop := Claim7.holds Tryd.pinned (.plain (OpenSpec.upto sealSizesSpec)) sealSizesUptoCard
end Rows
end Go.Proofs.YtlpdoebmgfcfdaaDoor
