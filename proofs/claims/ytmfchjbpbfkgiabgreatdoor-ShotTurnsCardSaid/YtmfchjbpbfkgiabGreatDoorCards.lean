/-
  DERIVED. GIVEN WITH THE SEED: THE CARDS: each row of YtmfchjbpbfkgiabGreatDoorRows.lean that lists a variable, with what it lists TIED to the program's text (the seventh form; the later family's looks); each row that meets fmt, with fmt's text TOLD by the authors' own Lean function (tested against real Go, not proved from fmt's source: count such statements apart). THE CARD IS WHAT COUNTS. Prove the row's statement (the work); the ties are given (YtmfchjbpbfkgiabGreatDoorTie.lean); close each card by the builder's one call (the guide's Derived/Test/ToyasCard.lean, 'card_holds'). Laid BY PROGRAM, IN A SANDBOX (cutbox-door.mjs). By AI agents, Wed Nov 11 2026. No macro, syntax, notation, axiom, sorry.
-/
import Derived.Test.YtmfchjbpbfkgiabGreatDoorRows
import GoSem.ClaimSeven
namespace Go.Proofs.YtmfchjbpbfkgiabGreatDoor
namespace Rows

/-- THE TIED CARD OF 'quitrentlaw07.ShotTurns'. -/
def shotTurnsCard : Claim7 := { stood := { row := shotTurnsRow, standIns := [], harness := (true, "ffaf28421267bf090318886214da8dbb64b476056788a858a55003a632c55753"), looks := true }, kinds := [], alts := [], laidByText := true, laidKinds := [.data, .sentinel, .sentinel, .sentinel, .sentinel, .sentinel, .pinned], laidTests := true, laidLooks := .later }
def ShotTurnsCardSaid : Prop := Claim7.holds Tryz.pinned (.plain (OpenSpec.ofChange shotTurnsSpec)) shotTurnsCard

/-- THE SECOND FORM's CARD OF 'quitrentlaw07.ShotTurns'. -/
def shotTurnsUptoCard : Claim7 := { stood := { row := shotTurnsUptoRow, standIns := [], harness := (true, "ffaf28421267bf090318886214da8dbb64b476056788a858a55003a632c55753"), looks := true }, kinds := [], alts := [], laidByText := true, laidKinds := [.data, .sentinel, .sentinel, .sentinel, .sentinel, .sentinel, .pinned], laidTests := true, laidLooks := .later }
def ShotTurnsUptoCardSaid : Prop := Claim7.holds Tryz.pinned (.plain (OpenSpec.upto shotTurnsSpec)) shotTurnsUptoCard
end Rows
end Go.Proofs.YtmfchjbpbfkgiabGreatDoor
