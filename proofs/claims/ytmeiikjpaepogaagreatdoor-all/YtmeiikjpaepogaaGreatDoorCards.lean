/-
  DERIVED. GIVEN WITH THE SEED: THE CARDS: each row of YtmeiikjpaepogaaGreatDoorRows.lean that lists a variable, with what it lists TIED to the program's text (the seventh form; the later family's looks); each row that meets fmt, with fmt's text TOLD by the authors' own Lean function (tested against real Go, not proved from fmt's source: count such statements apart). THE CARD IS WHAT COUNTS. Prove the row's statement (the work); the ties are given (YtmeiikjpaepogaaGreatDoorTie.lean); close each card by the builder's one call (the guide's Derived/Test/ToyasCard.lean, 'card_holds'). Laid BY PROGRAM, IN A SANDBOX (cutbox-door.mjs). By AI agents, Wed Nov 11 2026. No macro, syntax, notation, axiom, sorry.
-/
import Derived.Test.YtmeiikjpaepogaaGreatDoorRows
import GoSem.ClaimSeven
namespace Go.Proofs.YtmeiikjpaepogaaGreatDoor
namespace Rows

/-- THE TIED CARD OF 'fathomlaw.Compiles'. -/
def compilesCard : Claim7 := { stood := { row := compilesRow, standIns := [], harness := (true, "996df78897def6aaaee0f9d0dd868840deca3130ed9bd81484a7a0f820852a8d"), looks := true }, kinds := [], alts := [], laidByText := true, laidKinds := [.data, .data, .data, .sentinel, .sentinel, .data], laidTests := true, laidLooks := .later }
def CompilesCardSaid : Prop := Claim7.holds Tryz.pinned (.plain (OpenSpec.ofChange compilesSpec)) compilesCard

/-- THE TIED CARD OF 'fathomlaw.Runs'. -/
def runsCard : Claim7 := { stood := { row := runsRow, standIns := [], harness := (true, "996df78897def6aaaee0f9d0dd868840deca3130ed9bd81484a7a0f820852a8d"), looks := true }, kinds := [], alts := [], laidByText := true, laidKinds := [.data, .data, .data, .sentinel, .sentinel, .data], laidTests := true, laidLooks := .later }
def RunsCardSaid : Prop := Claim7.holds Tryz.pinned (.plain (OpenSpec.ofChange runsSpec)) runsCard

/-- THE TIED CARD OF 'fathomlaw.Loads'. -/
def loadsCard : Claim7 := { stood := { row := loadsRow, standIns := [], harness := (true, "996df78897def6aaaee0f9d0dd868840deca3130ed9bd81484a7a0f820852a8d"), looks := true }, kinds := [], alts := [], laidByText := true, laidKinds := [.data, .data, .data, .sentinel, .sentinel, .data], laidTests := true, laidLooks := .later }
def LoadsCardSaid : Prop := Claim7.holds Tryz.pinned (.plain (OpenSpec.ofChange loadsSpec)) loadsCard

/-- THE TIED CARD OF 'fathomkeep.Listed'. -/
def listedCard : Claim7 := { stood := { row := listedRow, standIns := [], harness := (true, "996df78897def6aaaee0f9d0dd868840deca3130ed9bd81484a7a0f820852a8d"), looks := true }, kinds := [], alts := [], laidByText := true, laidKinds := [.data, .data, .data, .sentinel, .sentinel, .data], laidTests := true, laidLooks := .later }
def ListedCardSaid : Prop := Claim7.holds Tryz.pinned (.plain (OpenSpec.ofChange listedSpec)) listedCard

/-- THE TIED CARD OF 'fathomkeep.Any'. -/
def anyCard : Claim7 := { stood := { row := anyRow, standIns := [], harness := (true, "996df78897def6aaaee0f9d0dd868840deca3130ed9bd81484a7a0f820852a8d"), looks := true }, kinds := [], alts := [], laidByText := true, laidKinds := [.data, .data, .data, .sentinel, .sentinel, .data], laidTests := true, laidLooks := .later }
def AnyCardSaid : Prop := Claim7.holds Tryz.pinned (.plain (OpenSpec.ofChange anySpec)) anyCard

/-- THE TIED CARD OF 'fathomlaw.Lists'. -/
def listsCard : Claim7 := { stood := { row := listsRow, standIns := [], harness := (true, "996df78897def6aaaee0f9d0dd868840deca3130ed9bd81484a7a0f820852a8d"), looks := true }, kinds := [], alts := [], laidByText := true, laidKinds := [.data, .data, .data, .sentinel, .sentinel, .data], laidTests := true, laidLooks := .later }
def ListsCardSaid : Prop := Claim7.holds Tryz.pinned (.plain (OpenSpec.ofChange listsSpec)) listsCard

/-- THE TIED CARD OF 'fathomkeep.Unseen'. -/
def unseenCard : Claim7 := { stood := { row := unseenRow, standIns := [], harness := (true, "996df78897def6aaaee0f9d0dd868840deca3130ed9bd81484a7a0f820852a8d"), looks := true }, kinds := [], alts := [], laidByText := true, laidKinds := [.data, .data, .data, .sentinel, .sentinel, .data], laidTests := true, laidLooks := .later }
def UnseenCardSaid : Prop := Claim7.holds Tryz.pinned (.plain (OpenSpec.ofChange unseenSpec)) unseenCard

/-- THE TIED CARD OF 'fathomkeep.Tailed'. -/
def tailedCard : Claim7 := { stood := { row := tailedRow, standIns := [], harness := (true, "996df78897def6aaaee0f9d0dd868840deca3130ed9bd81484a7a0f820852a8d"), looks := true }, kinds := [], alts := [], laidByText := true, laidKinds := [.data, .data, .data, .sentinel, .sentinel, .data], laidTests := true, laidLooks := .later }
def TailedCardSaid : Prop := Claim7.holds Tryz.pinned (.plain (OpenSpec.ofChange tailedSpec)) tailedCard

/-- THE TIED CARD OF 'fathomkeep.Reckoned'. -/
def reckonedCard : Claim7 := { stood := { row := reckonedRow, standIns := [], harness := (true, "996df78897def6aaaee0f9d0dd868840deca3130ed9bd81484a7a0f820852a8d"), looks := true }, kinds := [], alts := [], laidByText := true, laidKinds := [.data, .data, .data, .sentinel, .sentinel, .data], laidTests := true, laidLooks := .later }
def ReckonedCardSaid : Prop := Claim7.holds Tryz.pinned (.plain (OpenSpec.ofChange reckonedSpec)) reckonedCard

/-- THE TIED CARD OF 'fathomkeep.Counted'. -/
def countedCard : Claim7 := { stood := { row := countedRow, standIns := [], harness := (true, "996df78897def6aaaee0f9d0dd868840deca3130ed9bd81484a7a0f820852a8d"), looks := true }, kinds := [], alts := [], laidByText := true, laidKinds := [.data, .data, .data, .sentinel, .sentinel, .data], laidTests := true, laidLooks := .later }
def CountedCardSaid : Prop := Claim7.holds Tryz.pinned (.plain (OpenSpec.ofChange countedSpec)) countedCard

/-- THE TIED CARD OF 'fathomkeep.Frozen'. -/
def frozenCard : Claim7 := { stood := { row := frozenRow, standIns := [], harness := (true, "996df78897def6aaaee0f9d0dd868840deca3130ed9bd81484a7a0f820852a8d"), looks := true }, kinds := [], alts := [], laidByText := true, laidKinds := [.data, .data, .data, .sentinel, .sentinel, .data], laidTests := true, laidLooks := .later }
def FrozenCardSaid : Prop := Claim7.holds Tryz.pinned (.plain (OpenSpec.ofChange frozenSpec)) frozenCard

/-- THE TIED CARD OF 'fathomlaw.All'. -/
def allCard : Claim7 := { stood := { row := allRow, standIns := [], harness := (true, "996df78897def6aaaee0f9d0dd868840deca3130ed9bd81484a7a0f820852a8d"), looks := true }, kinds := [], alts := [], laidByText := true, laidKinds := [.data, .data, .data, .sentinel, .sentinel, .data], laidTests := true, laidLooks := .later }
def AllCardSaid : Prop := Claim7.holds Tryz.pinned (.plain (OpenSpec.ofChange allSpec)) allCard

/-- THE SECOND FORM's CARD OF 'fathomlaw.Compiles'. -/
def compilesUptoCard : Claim7 := { stood := { row := compilesUptoRow, standIns := [], harness := (true, "996df78897def6aaaee0f9d0dd868840deca3130ed9bd81484a7a0f820852a8d"), looks := true }, kinds := [], alts := [], laidByText := true, laidKinds := [.data, .data, .data, .sentinel, .sentinel, .data], laidTests := true, laidLooks := .later }
def CompilesUptoCardSaid : Prop := Claim7.holds Tryz.pinned (.plain (OpenSpec.upto compilesSpec)) compilesUptoCard

/-- THE SECOND FORM's CARD OF 'fathomlaw.Runs'. -/
def runsUptoCard : Claim7 := { stood := { row := runsUptoRow, standIns := [], harness := (true, "996df78897def6aaaee0f9d0dd868840deca3130ed9bd81484a7a0f820852a8d"), looks := true }, kinds := [], alts := [], laidByText := true, laidKinds := [.data, .data, .data, .sentinel, .sentinel, .data], laidTests := true, laidLooks := .later }
def RunsUptoCardSaid : Prop := Claim7.holds Tryz.pinned (.plain (OpenSpec.upto runsSpec)) runsUptoCard

/-- THE SECOND FORM's CARD OF 'fathomlaw.Loads'. -/
def loadsUptoCard : Claim7 := { stood := { row := loadsUptoRow, standIns := [], harness := (true, "996df78897def6aaaee0f9d0dd868840deca3130ed9bd81484a7a0f820852a8d"), looks := true }, kinds := [], alts := [], laidByText := true, laidKinds := [.data, .data, .data, .sentinel, .sentinel, .data], laidTests := true, laidLooks := .later }
def LoadsUptoCardSaid : Prop := Claim7.holds Tryz.pinned (.plain (OpenSpec.upto loadsSpec)) loadsUptoCard

/-- THE SECOND FORM's CARD OF 'fathomkeep.Listed'. -/
def listedUptoCard : Claim7 := { stood := { row := listedUptoRow, standIns := [], harness := (true, "996df78897def6aaaee0f9d0dd868840deca3130ed9bd81484a7a0f820852a8d"), looks := true }, kinds := [], alts := [], laidByText := true, laidKinds := [.data, .data, .data, .sentinel, .sentinel, .data], laidTests := true, laidLooks := .later }
def ListedUptoCardSaid : Prop := Claim7.holds Tryz.pinned (.plain (OpenSpec.upto listedSpec)) listedUptoCard

/-- THE SECOND FORM's CARD OF 'fathomkeep.Any'. -/
def anyUptoCard : Claim7 := { stood := { row := anyUptoRow, standIns := [], harness := (true, "996df78897def6aaaee0f9d0dd868840deca3130ed9bd81484a7a0f820852a8d"), looks := true }, kinds := [], alts := [], laidByText := true, laidKinds := [.data, .data, .data, .sentinel, .sentinel, .data], laidTests := true, laidLooks := .later }
def AnyUptoCardSaid : Prop := Claim7.holds Tryz.pinned (.plain (OpenSpec.upto anySpec)) anyUptoCard

/-- THE SECOND FORM's CARD OF 'fathomlaw.Lists'. -/
def listsUptoCard : Claim7 := { stood := { row := listsUptoRow, standIns := [], harness := (true, "996df78897def6aaaee0f9d0dd868840deca3130ed9bd81484a7a0f820852a8d"), looks := true }, kinds := [], alts := [], laidByText := true, laidKinds := [.data, .data, .data, .sentinel, .sentinel, .data], laidTests := true, laidLooks := .later }
def ListsUptoCardSaid : Prop := Claim7.holds Tryz.pinned (.plain (OpenSpec.upto listsSpec)) listsUptoCard

/-- THE SECOND FORM's CARD OF 'fathomkeep.Unseen'. -/
def unseenUptoCard : Claim7 := { stood := { row := unseenUptoRow, standIns := [], harness := (true, "996df78897def6aaaee0f9d0dd868840deca3130ed9bd81484a7a0f820852a8d"), looks := true }, kinds := [], alts := [], laidByText := true, laidKinds := [.data, .data, .data, .sentinel, .sentinel, .data], laidTests := true, laidLooks := .later }
def UnseenUptoCardSaid : Prop := Claim7.holds Tryz.pinned (.plain (OpenSpec.upto unseenSpec)) unseenUptoCard

/-- THE SECOND FORM's CARD OF 'fathomkeep.Tailed'. -/
def tailedUptoCard : Claim7 := { stood := { row := tailedUptoRow, standIns := [], harness := (true, "996df78897def6aaaee0f9d0dd868840deca3130ed9bd81484a7a0f820852a8d"), looks := true }, kinds := [], alts := [], laidByText := true, laidKinds := [.data, .data, .data, .sentinel, .sentinel, .data], laidTests := true, laidLooks := .later }
def TailedUptoCardSaid : Prop := Claim7.holds Tryz.pinned (.plain (OpenSpec.upto tailedSpec)) tailedUptoCard

/-- THE SECOND FORM's CARD OF 'fathomkeep.Reckoned'. -/
def reckonedUptoCard : Claim7 := { stood := { row := reckonedUptoRow, standIns := [], harness := (true, "996df78897def6aaaee0f9d0dd868840deca3130ed9bd81484a7a0f820852a8d"), looks := true }, kinds := [], alts := [], laidByText := true, laidKinds := [.data, .data, .data, .sentinel, .sentinel, .data], laidTests := true, laidLooks := .later }
def ReckonedUptoCardSaid : Prop := Claim7.holds Tryz.pinned (.plain (OpenSpec.upto reckonedSpec)) reckonedUptoCard

/-- THE SECOND FORM's CARD OF 'fathomkeep.Counted'. -/
def countedUptoCard : Claim7 := { stood := { row := countedUptoRow, standIns := [], harness := (true, "996df78897def6aaaee0f9d0dd868840deca3130ed9bd81484a7a0f820852a8d"), looks := true }, kinds := [], alts := [], laidByText := true, laidKinds := [.data, .data, .data, .sentinel, .sentinel, .data], laidTests := true, laidLooks := .later }
def CountedUptoCardSaid : Prop := Claim7.holds Tryz.pinned (.plain (OpenSpec.upto countedSpec)) countedUptoCard

/-- THE SECOND FORM's CARD OF 'fathomkeep.Frozen'. -/
def frozenUptoCard : Claim7 := { stood := { row := frozenUptoRow, standIns := [], harness := (true, "996df78897def6aaaee0f9d0dd868840deca3130ed9bd81484a7a0f820852a8d"), looks := true }, kinds := [], alts := [], laidByText := true, laidKinds := [.data, .data, .data, .sentinel, .sentinel, .data], laidTests := true, laidLooks := .later }
def FrozenUptoCardSaid : Prop := Claim7.holds Tryz.pinned (.plain (OpenSpec.upto frozenSpec)) frozenUptoCard

/-- THE SECOND FORM's CARD OF 'fathomlaw.All'. -/
def allUptoCard : Claim7 := { stood := { row := allUptoRow, standIns := [], harness := (true, "996df78897def6aaaee0f9d0dd868840deca3130ed9bd81484a7a0f820852a8d"), looks := true }, kinds := [], alts := [], laidByText := true, laidKinds := [.data, .data, .data, .sentinel, .sentinel, .data], laidTests := true, laidLooks := .later }
def AllUptoCardSaid : Prop := Claim7.holds Tryz.pinned (.plain (OpenSpec.upto allSpec)) allUptoCard
end Rows
end Go.Proofs.YtmeiikjpaepogaaGreatDoor
