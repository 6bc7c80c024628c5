/-
  DERIVED. GIVEN WITH THE SEED: THE CARDS: each row of YtldifaahmpecfaaGreatDoorRows.lean that lists a variable, with what it lists TIED to the program's text (the seventh form; the later family's looks); each row that meets fmt, with fmt's text TOLD by the authors' own Lean function (tested against real Go, not proved from fmt's source: count such statements apart). THE CARD IS WHAT COUNTS. Prove the row's statement (the work); the ties are given (YtldifaahmpecfaaGreatDoorTie.lean); close each card by the builder's one call (the guide's Derived/Test/ToyasCard.lean, 'card_holds'). Laid BY PROGRAM, IN A SANDBOX (cutbox-door.mjs). By AI agents, Wed Nov 11 2026. No macro, syntax, notation, axiom, sorry.
-/
import Derived.Test.YtldifaahmpecfaaGreatDoorRows
import GoSem.ClaimSeven
namespace Go.Proofs.YtldifaahmpecfaaGreatDoor
namespace Rows

/-- THE TIED CARD OF 'anvillaw.Lines'. -/
def linesCard : Claim7 := { stood := { row := linesRow, standIns := [], harness := (true, "57c33efcd32d61a1e7c6120ad3d19fe0abecb6873405b2b6727a431442264c88"), looks := true }, kinds := [], alts := [], laidByText := true, laidKinds := [.data, .data, .data, .sentinel, .sentinel, .listed, .data, .data], laidTests := true, laidLooks := .later }
def LinesCardSaid : Prop := Claim7.holds Tryz.pinned (.plain (OpenSpec.ofChange linesSpec)) linesCard

/-- THE TIED CARD OF 'anvillaw.Runs'. -/
def runsCard : Claim7 := { stood := { row := runsRow, standIns := [], harness := (true, "57c33efcd32d61a1e7c6120ad3d19fe0abecb6873405b2b6727a431442264c88"), looks := true }, kinds := [], alts := [], laidByText := true, laidKinds := [.data, .data, .data, .sentinel, .sentinel, .listed, .data, .data], laidTests := true, laidLooks := .later }
def RunsCardSaid : Prop := Claim7.holds Tryz.pinned (.plain (OpenSpec.ofChange runsSpec)) runsCard

/-- THE TIED CARD OF 'anvilkeep.Reckoned'. -/
def reckonedCard : Claim7 := { stood := { row := reckonedRow, standIns := [], harness := (true, "57c33efcd32d61a1e7c6120ad3d19fe0abecb6873405b2b6727a431442264c88"), looks := true }, kinds := [], alts := [], laidByText := true, laidKinds := [.data, .data, .data, .sentinel, .sentinel, .listed, .data, .data], laidTests := true, laidLooks := .later }
def ReckonedCardSaid : Prop := Claim7.holds Tryz.pinned (.plain (OpenSpec.ofChange reckonedSpec)) reckonedCard

/-- THE TIED CARD OF 'anvilkeep.Counted'. -/
def countedCard : Claim7 := { stood := { row := countedRow, standIns := [], harness := (true, "57c33efcd32d61a1e7c6120ad3d19fe0abecb6873405b2b6727a431442264c88"), looks := true }, kinds := [], alts := [], laidByText := true, laidKinds := [.data, .data, .data, .sentinel, .sentinel, .listed, .data, .data], laidTests := true, laidLooks := .later }
def CountedCardSaid : Prop := Claim7.holds Tryz.pinned (.plain (OpenSpec.ofChange countedSpec)) countedCard

/-- THE TIED CARD OF 'anvilkeep.Untuned'. -/
def untunedCard : Claim7 := { stood := { row := untunedRow, standIns := [], harness := (true, "57c33efcd32d61a1e7c6120ad3d19fe0abecb6873405b2b6727a431442264c88"), looks := true }, kinds := [], alts := [], laidByText := true, laidKinds := [.data, .data, .data, .sentinel, .sentinel, .listed, .data, .data], laidTests := true, laidLooks := .later }
def UntunedCardSaid : Prop := Claim7.holds Tryz.pinned (.plain (OpenSpec.ofChange untunedSpec)) untunedCard

/-- THE TIED CARD OF 'anvilkeep.Spent'. -/
def spentCard : Claim7 := { stood := { row := spentRow, standIns := [], harness := (true, "57c33efcd32d61a1e7c6120ad3d19fe0abecb6873405b2b6727a431442264c88"), looks := true }, kinds := [], alts := [], laidByText := true, laidKinds := [.data, .data, .data, .sentinel, .sentinel, .listed, .data, .data], laidTests := true, laidLooks := .later }
def SpentCardSaid : Prop := Claim7.holds Tryz.pinned (.plain (OpenSpec.ofChange spentSpec)) spentCard

/-- THE TIED CARD OF 'anvilkeep.Late'. -/
def lateCard : Claim7 := { stood := { row := lateRow, standIns := [], harness := (true, "57c33efcd32d61a1e7c6120ad3d19fe0abecb6873405b2b6727a431442264c88"), looks := true }, kinds := [], alts := [], laidByText := true, laidKinds := [.data, .data, .data, .sentinel, .sentinel, .listed, .data, .data], laidTests := true, laidLooks := .later }
def LateCardSaid : Prop := Claim7.holds Tryz.pinned (.plain (OpenSpec.ofChange lateSpec)) lateCard

/-- THE SECOND FORM's CARD OF 'anvillaw.Lines'. -/
def linesUptoCard : Claim7 := { stood := { row := linesUptoRow, standIns := [], harness := (true, "57c33efcd32d61a1e7c6120ad3d19fe0abecb6873405b2b6727a431442264c88"), looks := true }, kinds := [], alts := [], laidByText := true, laidKinds := [.data, .data, .data, .sentinel, .sentinel, .listed, .data, .data], laidTests := true, laidLooks := .later }
def LinesUptoCardSaid : Prop := Claim7.holds Tryz.pinned (.plain (OpenSpec.upto linesSpec)) linesUptoCard

/-- THE SECOND FORM's CARD OF 'anvillaw.Runs'. -/
def runsUptoCard : Claim7 := { stood := { row := runsUptoRow, standIns := [], harness := (true, "57c33efcd32d61a1e7c6120ad3d19fe0abecb6873405b2b6727a431442264c88"), looks := true }, kinds := [], alts := [], laidByText := true, laidKinds := [.data, .data, .data, .sentinel, .sentinel, .listed, .data, .data], laidTests := true, laidLooks := .later }
def RunsUptoCardSaid : Prop := Claim7.holds Tryz.pinned (.plain (OpenSpec.upto runsSpec)) runsUptoCard

/-- THE SECOND FORM's CARD OF 'anvilkeep.Reckoned'. -/
def reckonedUptoCard : Claim7 := { stood := { row := reckonedUptoRow, standIns := [], harness := (true, "57c33efcd32d61a1e7c6120ad3d19fe0abecb6873405b2b6727a431442264c88"), looks := true }, kinds := [], alts := [], laidByText := true, laidKinds := [.data, .data, .data, .sentinel, .sentinel, .listed, .data, .data], laidTests := true, laidLooks := .later }
def ReckonedUptoCardSaid : Prop := Claim7.holds Tryz.pinned (.plain (OpenSpec.upto reckonedSpec)) reckonedUptoCard

/-- THE SECOND FORM's CARD OF 'anvilkeep.Counted'. -/
def countedUptoCard : Claim7 := { stood := { row := countedUptoRow, standIns := [], harness := (true, "57c33efcd32d61a1e7c6120ad3d19fe0abecb6873405b2b6727a431442264c88"), looks := true }, kinds := [], alts := [], laidByText := true, laidKinds := [.data, .data, .data, .sentinel, .sentinel, .listed, .data, .data], laidTests := true, laidLooks := .later }
def CountedUptoCardSaid : Prop := Claim7.holds Tryz.pinned (.plain (OpenSpec.upto countedSpec)) countedUptoCard

/-- THE SECOND FORM's CARD OF 'anvilkeep.Untuned'. -/
def untunedUptoCard : Claim7 := { stood := { row := untunedUptoRow, standIns := [], harness := (true, "57c33efcd32d61a1e7c6120ad3d19fe0abecb6873405b2b6727a431442264c88"), looks := true }, kinds := [], alts := [], laidByText := true, laidKinds := [.data, .data, .data, .sentinel, .sentinel, .listed, .data, .data], laidTests := true, laidLooks := .later }
def UntunedUptoCardSaid : Prop := Claim7.holds Tryz.pinned (.plain (OpenSpec.upto untunedSpec)) untunedUptoCard

/-- THE SECOND FORM's CARD OF 'anvilkeep.Spent'. -/
def spentUptoCard : Claim7 := { stood := { row := spentUptoRow, standIns := [], harness := (true, "57c33efcd32d61a1e7c6120ad3d19fe0abecb6873405b2b6727a431442264c88"), looks := true }, kinds := [], alts := [], laidByText := true, laidKinds := [.data, .data, .data, .sentinel, .sentinel, .listed, .data, .data], laidTests := true, laidLooks := .later }
def SpentUptoCardSaid : Prop := Claim7.holds Tryz.pinned (.plain (OpenSpec.upto spentSpec)) spentUptoCard

/-- THE SECOND FORM's CARD OF 'anvilkeep.Late'. -/
def lateUptoCard : Claim7 := { stood := { row := lateUptoRow, standIns := [], harness := (true, "57c33efcd32d61a1e7c6120ad3d19fe0abecb6873405b2b6727a431442264c88"), looks := true }, kinds := [], alts := [], laidByText := true, laidKinds := [.data, .data, .data, .sentinel, .sentinel, .listed, .data, .data], laidTests := true, laidLooks := .later }
def LateUptoCardSaid : Prop := Claim7.holds Tryz.pinned (.plain (OpenSpec.upto lateSpec)) lateUptoCard
end Rows
end Go.Proofs.YtldifaahmpecfaaGreatDoor
