/-
  DERIVED. GIVEN WITH THE SEED: THE CARDS: each row of YteainaiebcphlaaGreatDoorRows.lean that lists a variable, with what it lists TIED to the program's text (the seventh form; the later family's looks); each row that meets fmt, with fmt's text TOLD by the authors' own Lean function (tested against real Go, not proved from fmt's source: count such statements apart). THE CARD IS WHAT COUNTS. Prove the row's statement (the work); the ties are given (YteainaiebcphlaaGreatDoorTie.lean); close each card by the builder's one call (the guide's Derived/Test/ToyasCard.lean, 'card_holds'). Laid BY PROGRAM, IN A SANDBOX (cutbox-door.mjs). By AI agents, Wed Nov 11 2026. No macro, syntax, notation, axiom, sorry.
-/
import Derived.Test.YteainaiebcphlaaGreatDoorRows
import GoSem.ClaimSeven
namespace Go.Proofs.YteainaiebcphlaaGreatDoor
namespace Rows

/-- THE TIED CARD OF 'anvillaw.Lines'. -/
def linesCard : Claim7 := { stood := { row := linesRow, standIns := [], harness := (true, "dd013e2b4a0fcbb02143439bbeced7f6bad8ed0cc361623af498c3877fb16a41"), looks := true }, kinds := [], alts := [], laidByText := true, laidKinds := [.data, .data, .data, .sentinel, .sentinel, .listed, .data, .data], laidTests := true, laidLooks := .later }
def LinesCardSaid : Prop := Claim7.holds Tryz.pinned (.plain (OpenSpec.ofChange linesSpec)) linesCard

/-- THE TIED CARD OF 'anvillaw.Runs'. -/
def runsCard : Claim7 := { stood := { row := runsRow, standIns := [], harness := (true, "dd013e2b4a0fcbb02143439bbeced7f6bad8ed0cc361623af498c3877fb16a41"), looks := true }, kinds := [], alts := [], laidByText := true, laidKinds := [.data, .data, .data, .sentinel, .sentinel, .listed, .data, .data], laidTests := true, laidLooks := .later }
def RunsCardSaid : Prop := Claim7.holds Tryz.pinned (.plain (OpenSpec.ofChange runsSpec)) runsCard

/-- THE TIED CARD OF 'anvilkeep.Reckoned'. -/
def reckonedCard : Claim7 := { stood := { row := reckonedRow, standIns := [], harness := (true, "dd013e2b4a0fcbb02143439bbeced7f6bad8ed0cc361623af498c3877fb16a41"), looks := true }, kinds := [], alts := [], laidByText := true, laidKinds := [.data, .data, .data, .sentinel, .sentinel, .listed, .data, .data], laidTests := true, laidLooks := .later }
def ReckonedCardSaid : Prop := Claim7.holds Tryz.pinned (.plain (OpenSpec.ofChange reckonedSpec)) reckonedCard

/-- THE TIED CARD OF 'anvilkeep.Counted'. -/
def countedCard : Claim7 := { stood := { row := countedRow, standIns := [], harness := (true, "dd013e2b4a0fcbb02143439bbeced7f6bad8ed0cc361623af498c3877fb16a41"), looks := true }, kinds := [], alts := [], laidByText := true, laidKinds := [.data, .data, .data, .sentinel, .sentinel, .listed, .data, .data], laidTests := true, laidLooks := .later }
def CountedCardSaid : Prop := Claim7.holds Tryz.pinned (.plain (OpenSpec.ofChange countedSpec)) countedCard

/-- THE TIED CARD OF 'anvilkeep.Untuned'. -/
def untunedCard : Claim7 := { stood := { row := untunedRow, standIns := [], harness := (true, "dd013e2b4a0fcbb02143439bbeced7f6bad8ed0cc361623af498c3877fb16a41"), looks := true }, kinds := [], alts := [], laidByText := true, laidKinds := [.data, .data, .data, .sentinel, .sentinel, .listed, .data, .data], laidTests := true, laidLooks := .later }
def UntunedCardSaid : Prop := Claim7.holds Tryz.pinned (.plain (OpenSpec.ofChange untunedSpec)) untunedCard

/-- THE TIED CARD OF 'anvilkeep.Spent'. -/
def spentCard : Claim7 := { stood := { row := spentRow, standIns := [], harness := (true, "dd013e2b4a0fcbb02143439bbeced7f6bad8ed0cc361623af498c3877fb16a41"), looks := true }, kinds := [], alts := [], laidByText := true, laidKinds := [.data, .data, .data, .sentinel, .sentinel, .listed, .data, .data], laidTests := true, laidLooks := .later }
def SpentCardSaid : Prop := Claim7.holds Tryz.pinned (.plain (OpenSpec.ofChange spentSpec)) spentCard

/-- THE TIED CARD OF 'anvilkeep.Late'. -/
def lateCard : Claim7 := { stood := { row := lateRow, standIns := [], harness := (true, "dd013e2b4a0fcbb02143439bbeced7f6bad8ed0cc361623af498c3877fb16a41"), looks := true }, kinds := [], alts := [], laidByText := true, laidKinds := [.data, .data, .data, .sentinel, .sentinel, .listed, .data, .data], laidTests := true, laidLooks := .later }
def LateCardSaid : Prop := Claim7.holds Tryz.pinned (.plain (OpenSpec.ofChange lateSpec)) lateCard

/-- THE TIED CARD OF 'anvilkeep.Hot'. -/
def hotCard : Claim7 := { stood := { row := hotRow, standIns := [], harness := (true, "dd013e2b4a0fcbb02143439bbeced7f6bad8ed0cc361623af498c3877fb16a41"), looks := true }, kinds := [], alts := [], laidByText := true, laidKinds := [.data, .data, .data, .sentinel, .sentinel, .listed, .data, .data], laidTests := true, laidLooks := .later }
def HotCardSaid : Prop := Claim7.holds Tryz.pinned (.plain (OpenSpec.ofChange hotSpec)) hotCard

/-- THE TIED CARD OF 'anvillaw.Wholes'. -/
def wholesCard : Claim7 := { stood := { row := wholesRow, standIns := [], harness := (true, "dd013e2b4a0fcbb02143439bbeced7f6bad8ed0cc361623af498c3877fb16a41"), looks := true }, kinds := [], alts := [], laidByText := true, laidKinds := [.data, .data, .data, .sentinel, .sentinel, .listed, .data, .data], laidTests := true, laidLooks := .later }
def WholesCardSaid : Prop := Claim7.holds Tryz.pinned (.plain (OpenSpec.ofChange wholesSpec)) wholesCard

/-- THE TIED CARD OF 'anvillaw.All'. -/
def allCard : Claim7 := { stood := { row := allRow, standIns := [], harness := (true, "dd013e2b4a0fcbb02143439bbeced7f6bad8ed0cc361623af498c3877fb16a41"), looks := true }, kinds := [], alts := [], laidByText := true, laidKinds := [.data, .data, .data, .sentinel, .sentinel, .listed, .data, .data], laidTests := true, laidLooks := .later }
def AllCardSaid : Prop := Claim7.holds Tryz.pinned (.plain (OpenSpec.ofChange allSpec)) allCard

/-- THE SECOND FORM's CARD OF 'anvillaw.Lines'. -/
def linesUptoCard : Claim7 := { stood := { row := linesUptoRow, standIns := [], harness := (true, "dd013e2b4a0fcbb02143439bbeced7f6bad8ed0cc361623af498c3877fb16a41"), looks := true }, kinds := [], alts := [], laidByText := true, laidKinds := [.data, .data, .data, .sentinel, .sentinel, .listed, .data, .data], laidTests := true, laidLooks := .later }
def LinesUptoCardSaid : Prop := Claim7.holds Tryz.pinned (.plain (OpenSpec.upto linesSpec)) linesUptoCard

/-- THE SECOND FORM's CARD OF 'anvillaw.Runs'. -/
def runsUptoCard : Claim7 := { stood := { row := runsUptoRow, standIns := [], harness := (true, "dd013e2b4a0fcbb02143439bbeced7f6bad8ed0cc361623af498c3877fb16a41"), looks := true }, kinds := [], alts := [], laidByText := true, laidKinds := [.data, .data, .data, .sentinel, .sentinel, .listed, .data, .data], laidTests := true, laidLooks := .later }
def RunsUptoCardSaid : Prop := Claim7.holds Tryz.pinned (.plain (OpenSpec.upto runsSpec)) runsUptoCard

/-- THE SECOND FORM's CARD OF 'anvilkeep.Reckoned'. -/
def reckonedUptoCard : Claim7 := { stood := { row := reckonedUptoRow, standIns := [], harness := (true, "dd013e2b4a0fcbb02143439bbeced7f6bad8ed0cc361623af498c3877fb16a41"), looks := true }, kinds := [], alts := [], laidByText := true, laidKinds := [.data, .data, .data, .sentinel, .sentinel, .listed, .data, .data], laidTests := true, laidLooks := .later }
def ReckonedUptoCardSaid : Prop := Claim7.holds Tryz.pinned (.plain (OpenSpec.upto reckonedSpec)) reckonedUptoCard

/-- THE SECOND FORM's CARD OF 'anvilkeep.Counted'. -/
def countedUptoCard : Claim7 := { stood := { row := countedUptoRow, standIns := [], harness := (true, "dd013e2b4a0fcbb02143439bbeced7f6bad8ed0cc361623af498c3877fb16a41"), looks := true }, kinds := [], alts := [], laidByText := true, laidKinds := [.data, .data, .data, .sentinel, .sentinel, .listed, .data, .data], laidTests := true, laidLooks := .later }
def CountedUptoCardSaid : Prop := Claim7.holds Tryz.pinned (.plain (OpenSpec.upto countedSpec)) countedUptoCard

/-- THE SECOND FORM's CARD OF 'anvilkeep.Untuned'. -/
def untunedUptoCard : Claim7 := { stood := { row := untunedUptoRow, standIns := [], harness := (true, "dd013e2b4a0fcbb02143439bbeced7f6bad8ed0cc361623af498c3877fb16a41"), looks := true }, kinds := [], alts := [], laidByText := true, laidKinds := [.data, .data, .data, .sentinel, .sentinel, .listed, .data, .data], laidTests := true, laidLooks := .later }
def UntunedUptoCardSaid : Prop := Claim7.holds Tryz.pinned (.plain (OpenSpec.upto untunedSpec)) untunedUptoCard

/-- THE SECOND FORM's CARD OF 'anvilkeep.Spent'. -/
def spentUptoCard : Claim7 := { stood := { row := spentUptoRow, standIns := [], harness := (true, "dd013e2b4a0fcbb02143439bbeced7f6bad8ed0cc361623af498c3877fb16a41"), looks := true }, kinds := [], alts := [], laidByText := true, laidKinds := [.data, .data, .data, .sentinel, .sentinel, .listed, .data, .data], laidTests := true, laidLooks := .later }
def SpentUptoCardSaid : Prop := Claim7.holds Tryz.pinned (.plain (OpenSpec.upto spentSpec)) spentUptoCard

/-- THE SECOND FORM's CARD OF 'anvilkeep.Late'. -/
def lateUptoCard : Claim7 := { stood := { row := lateUptoRow, standIns := [], harness := (true, "dd013e2b4a0fcbb02143439bbeced7f6bad8ed0cc361623af498c3877fb16a41"), looks := true }, kinds := [], alts := [], laidByText := true, laidKinds := [.data, .data, .data, .sentinel, .sentinel, .listed, .data, .data], laidTests := true, laidLooks := .later }
def LateUptoCardSaid : Prop := Claim7.holds Tryz.pinned (.plain (OpenSpec.upto lateSpec)) lateUptoCard

/-- THE SECOND FORM's CARD OF 'anvilkeep.Hot'. -/
def hotUptoCard : Claim7 := { stood := { row := hotUptoRow, standIns := [], harness := (true, "dd013e2b4a0fcbb02143439bbeced7f6bad8ed0cc361623af498c3877fb16a41"), looks := true }, kinds := [], alts := [], laidByText := true, laidKinds := [.data, .data, .data, .sentinel, .sentinel, .listed, .data, .data], laidTests := true, laidLooks := .later }
def HotUptoCardSaid : Prop := Claim7.holds Tryz.pinned (.plain (OpenSpec.upto hotSpec)) hotUptoCard

/-- THE SECOND FORM's CARD OF 'anvillaw.Wholes'. -/
def wholesUptoCard : Claim7 := { stood := { row := wholesUptoRow, standIns := [], harness := (true, "dd013e2b4a0fcbb02143439bbeced7f6bad8ed0cc361623af498c3877fb16a41"), looks := true }, kinds := [], alts := [], laidByText := true, laidKinds := [.data, .data, .data, .sentinel, .sentinel, .listed, .data, .data], laidTests := true, laidLooks := .later }
def WholesUptoCardSaid : Prop := Claim7.holds Tryz.pinned (.plain (OpenSpec.upto wholesSpec)) wholesUptoCard

/-- THE SECOND FORM's CARD OF 'anvillaw.All'. -/
def allUptoCard : Claim7 := { stood := { row := allUptoRow, standIns := [], harness := (true, "dd013e2b4a0fcbb02143439bbeced7f6bad8ed0cc361623af498c3877fb16a41"), looks := true }, kinds := [], alts := [], laidByText := true, laidKinds := [.data, .data, .data, .sentinel, .sentinel, .listed, .data, .data], laidTests := true, laidLooks := .later }
def AllUptoCardSaid : Prop := Claim7.holds Tryz.pinned (.plain (OpenSpec.upto allSpec)) allUptoCard
end Rows
end Go.Proofs.YteainaiebcphlaaGreatDoor
