/-
  DERIVED. GIVEN WITH THE SEED: THE CARDS: each row of YtdcpiaoadbbdoaaGreatDoorRows.lean that lists a variable, with what it lists TIED to the program's text (the seventh form; the later family's looks); each row that meets fmt, with fmt's text TOLD by the authors' own Lean function (tested against real Go, not proved from fmt's source: count such statements apart). THE CARD IS WHAT COUNTS. Prove the row's statement (the work); the ties are given (YtdcpiaoadbbdoaaGreatDoorTie.lean); close each card by the builder's one call (the guide's Derived/Test/ToyasCard.lean, 'card_holds'). Laid BY PROGRAM, IN A SANDBOX (cutbox-door.mjs). By AI agents, Wed Nov 11 2026. No macro, syntax, notation, axiom, sorry.
-/
import Derived.Test.YtdcpiaoadbbdoaaGreatDoorRows
import GoSem.ClaimSeven
namespace Go.Proofs.YtdcpiaoadbbdoaaGreatDoor
namespace Rows

/-- THE TIED CARD OF 'ferrulelaw08.RaftChanges'. -/
def raftChangesCard : Claim7 := { stood := { row := raftChangesRow, standIns := [], harness := (true, "805ec80a47da7acbfc8f3218ecfceb7b0a2b7364c712a344ec7a7ba2beb8cb23"), looks := false }, kinds := [], alts := [], laidByText := true, laidKinds := [.data, .data], laidTests := true, laidLooks := .later }
def RaftChangesCardSaid : Prop := Claim7.holds Tryz.pinned (.plain (OpenSpec.ofChange raftChangesSpec)) raftChangesCard

/-- THE TIED CARD OF 'ferrulelaw08.RaftCompacts'. -/
def raftCompactsCard : Claim7 := { stood := { row := raftCompactsRow, standIns := [], harness := (true, "805ec80a47da7acbfc8f3218ecfceb7b0a2b7364c712a344ec7a7ba2beb8cb23"), looks := false }, kinds := [], alts := [], laidByText := true, laidKinds := [.data, .data], laidTests := true, laidLooks := .later }
def RaftCompactsCardSaid : Prop := Claim7.holds Tryz.pinned (.plain (OpenSpec.ofChange raftCompactsSpec)) raftCompactsCard

/-- THE TIED CARD OF 'ferrulelaw08.RaftKeeps'. -/
def raftKeepsCard : Claim7 := { stood := { row := raftKeepsRow, standIns := [], harness := (true, "805ec80a47da7acbfc8f3218ecfceb7b0a2b7364c712a344ec7a7ba2beb8cb23"), looks := false }, kinds := [], alts := [], laidByText := true, laidKinds := [.data, .data], laidTests := true, laidLooks := .later }
def RaftKeepsCardSaid : Prop := Claim7.holds Tryz.pinned (.plain (OpenSpec.ofChange raftKeepsSpec)) raftKeepsCard

/-- THE TIED CARD OF 'ferrulelaw08.RaftVotes'. -/
def raftVotesCard : Claim7 := { stood := { row := raftVotesRow, standIns := [], harness := (true, "805ec80a47da7acbfc8f3218ecfceb7b0a2b7364c712a344ec7a7ba2beb8cb23"), looks := false }, kinds := [], alts := [], laidByText := true, laidKinds := [.data, .data], laidTests := true, laidLooks := .later }
def RaftVotesCardSaid : Prop := Claim7.holds Tryz.pinned (.plain (OpenSpec.ofChange raftVotesSpec)) raftVotesCard

/-- THE TIED CARD OF 'ferrulelaw08.RaftStable'. -/
def raftStableCard : Claim7 := { stood := { row := raftStableRow, standIns := [], harness := (true, "805ec80a47da7acbfc8f3218ecfceb7b0a2b7364c712a344ec7a7ba2beb8cb23"), looks := false }, kinds := [], alts := [], laidByText := true, laidKinds := [.data, .data], laidTests := true, laidLooks := .later }
def RaftStableCardSaid : Prop := Claim7.holds Tryz.pinned (.plain (OpenSpec.ofChange raftStableSpec)) raftStableCard

/-- THE SECOND FORM's CARD OF 'ferrulelaw08.RaftChanges'. -/
def raftChangesUptoCard : Claim7 := { stood := { row := raftChangesUptoRow, standIns := [], harness := (true, "805ec80a47da7acbfc8f3218ecfceb7b0a2b7364c712a344ec7a7ba2beb8cb23"), looks := false }, kinds := [], alts := [], laidByText := true, laidKinds := [.data, .data], laidTests := true, laidLooks := .later }
def RaftChangesUptoCardSaid : Prop := Claim7.holds Tryz.pinned (.plain (OpenSpec.upto raftChangesSpec)) raftChangesUptoCard

/-- THE SECOND FORM's CARD OF 'ferrulelaw08.RaftCompacts'. -/
def raftCompactsUptoCard : Claim7 := { stood := { row := raftCompactsUptoRow, standIns := [], harness := (true, "805ec80a47da7acbfc8f3218ecfceb7b0a2b7364c712a344ec7a7ba2beb8cb23"), looks := false }, kinds := [], alts := [], laidByText := true, laidKinds := [.data, .data], laidTests := true, laidLooks := .later }
def RaftCompactsUptoCardSaid : Prop := Claim7.holds Tryz.pinned (.plain (OpenSpec.upto raftCompactsSpec)) raftCompactsUptoCard

/-- THE SECOND FORM's CARD OF 'ferrulelaw08.RaftKeeps'. -/
def raftKeepsUptoCard : Claim7 := { stood := { row := raftKeepsUptoRow, standIns := [], harness := (true, "805ec80a47da7acbfc8f3218ecfceb7b0a2b7364c712a344ec7a7ba2beb8cb23"), looks := false }, kinds := [], alts := [], laidByText := true, laidKinds := [.data, .data], laidTests := true, laidLooks := .later }
def RaftKeepsUptoCardSaid : Prop := Claim7.holds Tryz.pinned (.plain (OpenSpec.upto raftKeepsSpec)) raftKeepsUptoCard

/-- THE SECOND FORM's CARD OF 'ferrulelaw08.RaftVotes'. -/
def raftVotesUptoCard : Claim7 := { stood := { row := raftVotesUptoRow, standIns := [], harness := (true, "805ec80a47da7acbfc8f3218ecfceb7b0a2b7364c712a344ec7a7ba2beb8cb23"), looks := false }, kinds := [], alts := [], laidByText := true, laidKinds := [.data, .data], laidTests := true, laidLooks := .later }
def RaftVotesUptoCardSaid : Prop := Claim7.holds Tryz.pinned (.plain (OpenSpec.upto raftVotesSpec)) raftVotesUptoCard

/-- THE SECOND FORM's CARD OF 'ferrulelaw08.RaftStable'. -/
def raftStableUptoCard : Claim7 := { stood := { row := raftStableUptoRow, standIns := [], harness := (true, "805ec80a47da7acbfc8f3218ecfceb7b0a2b7364c712a344ec7a7ba2beb8cb23"), looks := false }, kinds := [], alts := [], laidByText := true, laidKinds := [.data, .data], laidTests := true, laidLooks := .later }
def RaftStableUptoCardSaid : Prop := Claim7.holds Tryz.pinned (.plain (OpenSpec.upto raftStableSpec)) raftStableUptoCard
end Rows
end Go.Proofs.YtdcpiaoadbbdoaaGreatDoor
