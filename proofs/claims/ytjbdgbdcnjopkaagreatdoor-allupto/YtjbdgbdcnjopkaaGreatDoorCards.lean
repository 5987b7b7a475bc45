/-
  DERIVED. GIVEN WITH THE SEED: THE CARDS: each row of YtjbdgbdcnjopkaaGreatDoorRows.lean that lists a variable, with what it lists TIED to the program's text (the seventh form; the later family's looks); each row that meets fmt, with fmt's text TOLD by the authors' own Lean function (tested against real Go, not proved from fmt's source: count such statements apart). THE CARD IS WHAT COUNTS. Prove the row's statement (the work); the ties are given (YtjbdgbdcnjopkaaGreatDoorTie.lean); close each card by the builder's one call (the guide's Derived/Test/ToyasCard.lean, 'card_holds'). Laid BY PROGRAM, IN A SANDBOX (cutbox-door.mjs). By AI agents, Wed Nov 11 2026. No macro, syntax, notation, axiom, sorry.
-/
import Derived.Test.YtjbdgbdcnjopkaaGreatDoorRows
import GoSem.ClaimSeven
namespace Go.Proofs.YtjbdgbdcnjopkaaGreatDoor
namespace Rows

/-- THE TIED CARD OF 'treadlelaw.Looks'. -/
def looksCard : Claim7 := { stood := { row := looksRow, standIns := [], harness := (true, "0a3b0f7d220781ef1cc98c4034ab829f152bc18808da4a2a94eea988817bde76"), looks := true }, kinds := [], alts := [], laidByText := true, laidKinds := [.mapped], laidTests := true, laidLooks := .later }
def LooksCardSaid : Prop := Claim7.holds Tryz.pinned (.plain (OpenSpec.ofChange looksSpec)) looksCard

/-- THE TIED CARD OF 'treadlelaw.Runs'. -/
def runsCard : Claim7 := { stood := { row := runsRow, standIns := [], harness := (true, "0a3b0f7d220781ef1cc98c4034ab829f152bc18808da4a2a94eea988817bde76"), looks := true }, kinds := [], alts := [], laidByText := true, laidKinds := [.mapped], laidTests := true, laidLooks := .later }
def RunsCardSaid : Prop := Claim7.holds Tryz.pinned (.plain (OpenSpec.ofChange runsSpec)) runsCard

/-- THE TIED CARD OF 'treadlelaw.All'. -/
def allCard : Claim7 := { stood := { row := allRow, standIns := [], harness := (true, "0a3b0f7d220781ef1cc98c4034ab829f152bc18808da4a2a94eea988817bde76"), looks := true }, kinds := [], alts := [], laidByText := true, laidKinds := [.mapped], laidTests := true, laidLooks := .later }
def AllCardSaid : Prop := Claim7.holds Tryz.pinned (.plain (OpenSpec.ofChange allSpec)) allCard

/-- THE TIED CARD OF 'treadlekeep.Sound'. -/
def soundCard : Claim7 := { stood := { row := soundRow, standIns := [], harness := (true, "0a3b0f7d220781ef1cc98c4034ab829f152bc18808da4a2a94eea988817bde76"), looks := true }, kinds := [], alts := [], laidByText := true, laidKinds := [.mapped], laidTests := true, laidLooks := .later }
def SoundCardSaid : Prop := Claim7.holds Tryz.pinned (.plain (OpenSpec.ofChange soundSpec)) soundCard

/-- THE TIED CARD OF 'treadlekeep.Sums'. -/
def sumsCard : Claim7 := { stood := { row := sumsRow, standIns := [], harness := (true, "0a3b0f7d220781ef1cc98c4034ab829f152bc18808da4a2a94eea988817bde76"), looks := true }, kinds := [], alts := [], laidByText := true, laidKinds := [.mapped], laidTests := true, laidLooks := .later }
def SumsCardSaid : Prop := Claim7.holds Tryz.pinned (.plain (OpenSpec.ofChange sumsSpec)) sumsCard

/-- THE TIED CARD OF 'treadlekeep.Moved'. -/
def movedCard : Claim7 := { stood := { row := movedRow, standIns := [], harness := (true, "0a3b0f7d220781ef1cc98c4034ab829f152bc18808da4a2a94eea988817bde76"), looks := true }, kinds := [], alts := [], laidByText := true, laidKinds := [.mapped], laidTests := true, laidLooks := .later }
def MovedCardSaid : Prop := Claim7.holds Tryz.pinned (.plain (OpenSpec.ofChange movedSpec)) movedCard

/-- THE TIED CARD OF 'treadlekeep.Loops'. -/
def loopsCard : Claim7 := { stood := { row := loopsRow, standIns := [], harness := (true, "0a3b0f7d220781ef1cc98c4034ab829f152bc18808da4a2a94eea988817bde76"), looks := true }, kinds := [], alts := [], laidByText := true, laidKinds := [.mapped], laidTests := true, laidLooks := .later }
def LoopsCardSaid : Prop := Claim7.holds Tryz.pinned (.plain (OpenSpec.ofChange loopsSpec)) loopsCard

/-- THE TIED CARD OF 'treadlekeep.Chosen'. -/
def chosenCard : Claim7 := { stood := { row := chosenRow, standIns := [], harness := (true, "0a3b0f7d220781ef1cc98c4034ab829f152bc18808da4a2a94eea988817bde76"), looks := true }, kinds := [], alts := [], laidByText := true, laidKinds := [.mapped], laidTests := true, laidLooks := .later }
def ChosenCardSaid : Prop := Claim7.holds Tryz.pinned (.plain (OpenSpec.ofChange chosenSpec)) chosenCard

/-- THE TIED CARD OF 'treadlekeep.Dead'. -/
def deadCard : Claim7 := { stood := { row := deadRow, standIns := [], harness := (true, "0a3b0f7d220781ef1cc98c4034ab829f152bc18808da4a2a94eea988817bde76"), looks := true }, kinds := [], alts := [], laidByText := true, laidKinds := [.mapped], laidTests := true, laidLooks := .later }
def DeadCardSaid : Prop := Claim7.holds Tryz.pinned (.plain (OpenSpec.ofChange deadSpec)) deadCard

/-- THE SECOND FORM's CARD OF 'treadlelaw.Looks'. -/
def looksUptoCard : Claim7 := { stood := { row := looksUptoRow, standIns := [], harness := (true, "0a3b0f7d220781ef1cc98c4034ab829f152bc18808da4a2a94eea988817bde76"), looks := true }, kinds := [], alts := [], laidByText := true, laidKinds := [.mapped], laidTests := true, laidLooks := .later }
def LooksUptoCardSaid : Prop := Claim7.holds Tryz.pinned (.plain (OpenSpec.upto looksSpec)) looksUptoCard

/-- THE SECOND FORM's CARD OF 'treadlelaw.Runs'. -/
def runsUptoCard : Claim7 := { stood := { row := runsUptoRow, standIns := [], harness := (true, "0a3b0f7d220781ef1cc98c4034ab829f152bc18808da4a2a94eea988817bde76"), looks := true }, kinds := [], alts := [], laidByText := true, laidKinds := [.mapped], laidTests := true, laidLooks := .later }
def RunsUptoCardSaid : Prop := Claim7.holds Tryz.pinned (.plain (OpenSpec.upto runsSpec)) runsUptoCard

/-- THE SECOND FORM's CARD OF 'treadlelaw.All'. -/
def allUptoCard : Claim7 := { stood := { row := allUptoRow, standIns := [], harness := (true, "0a3b0f7d220781ef1cc98c4034ab829f152bc18808da4a2a94eea988817bde76"), looks := true }, kinds := [], alts := [], laidByText := true, laidKinds := [.mapped], laidTests := true, laidLooks := .later }
def AllUptoCardSaid : Prop := Claim7.holds Tryz.pinned (.plain (OpenSpec.upto allSpec)) allUptoCard

/-- THE SECOND FORM's CARD OF 'treadlekeep.Sound'. -/
def soundUptoCard : Claim7 := { stood := { row := soundUptoRow, standIns := [], harness := (true, "0a3b0f7d220781ef1cc98c4034ab829f152bc18808da4a2a94eea988817bde76"), looks := true }, kinds := [], alts := [], laidByText := true, laidKinds := [.mapped], laidTests := true, laidLooks := .later }
def SoundUptoCardSaid : Prop := Claim7.holds Tryz.pinned (.plain (OpenSpec.upto soundSpec)) soundUptoCard

/-- THE SECOND FORM's CARD OF 'treadlekeep.Sums'. -/
def sumsUptoCard : Claim7 := { stood := { row := sumsUptoRow, standIns := [], harness := (true, "0a3b0f7d220781ef1cc98c4034ab829f152bc18808da4a2a94eea988817bde76"), looks := true }, kinds := [], alts := [], laidByText := true, laidKinds := [.mapped], laidTests := true, laidLooks := .later }
def SumsUptoCardSaid : Prop := Claim7.holds Tryz.pinned (.plain (OpenSpec.upto sumsSpec)) sumsUptoCard

/-- THE SECOND FORM's CARD OF 'treadlekeep.Moved'. -/
def movedUptoCard : Claim7 := { stood := { row := movedUptoRow, standIns := [], harness := (true, "0a3b0f7d220781ef1cc98c4034ab829f152bc18808da4a2a94eea988817bde76"), looks := true }, kinds := [], alts := [], laidByText := true, laidKinds := [.mapped], laidTests := true, laidLooks := .later }
def MovedUptoCardSaid : Prop := Claim7.holds Tryz.pinned (.plain (OpenSpec.upto movedSpec)) movedUptoCard

/-- THE SECOND FORM's CARD OF 'treadlekeep.Loops'. -/
def loopsUptoCard : Claim7 := { stood := { row := loopsUptoRow, standIns := [], harness := (true, "0a3b0f7d220781ef1cc98c4034ab829f152bc18808da4a2a94eea988817bde76"), looks := true }, kinds := [], alts := [], laidByText := true, laidKinds := [.mapped], laidTests := true, laidLooks := .later }
def LoopsUptoCardSaid : Prop := Claim7.holds Tryz.pinned (.plain (OpenSpec.upto loopsSpec)) loopsUptoCard

/-- THE SECOND FORM's CARD OF 'treadlekeep.Chosen'. -/
def chosenUptoCard : Claim7 := { stood := { row := chosenUptoRow, standIns := [], harness := (true, "0a3b0f7d220781ef1cc98c4034ab829f152bc18808da4a2a94eea988817bde76"), looks := true }, kinds := [], alts := [], laidByText := true, laidKinds := [.mapped], laidTests := true, laidLooks := .later }
def ChosenUptoCardSaid : Prop := Claim7.holds Tryz.pinned (.plain (OpenSpec.upto chosenSpec)) chosenUptoCard

/-- THE SECOND FORM's CARD OF 'treadlekeep.Dead'. -/
def deadUptoCard : Claim7 := { stood := { row := deadUptoRow, standIns := [], harness := (true, "0a3b0f7d220781ef1cc98c4034ab829f152bc18808da4a2a94eea988817bde76"), looks := true }, kinds := [], alts := [], laidByText := true, laidKinds := [.mapped], laidTests := true, laidLooks := .later }
def DeadUptoCardSaid : Prop := Claim7.holds Tryz.pinned (.plain (OpenSpec.upto deadSpec)) deadUptoCard
end Rows
end Go.Proofs.YtjbdgbdcnjopkaaGreatDoor
