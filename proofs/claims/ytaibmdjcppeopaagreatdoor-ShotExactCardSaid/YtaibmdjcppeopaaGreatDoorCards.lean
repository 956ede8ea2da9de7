/-
  DERIVED. GIVEN WITH THE SEED: THE CARDS: each row of YtaibmdjcppeopaaGreatDoorRows.lean that lists a variable, with what it lists TIED to the program's text (the seventh form; the later family's looks); each row that meets fmt, with fmt's text TOLD by the authors' own Lean function (tested against real Go, not proved from fmt's source: count such statements apart). THE CARD IS WHAT COUNTS. Prove the row's statement (the work); the ties are given (YtaibmdjcppeopaaGreatDoorTie.lean); close each card by the builder's one call (the guide's Derived/Test/ToyasCard.lean, 'card_holds'). Laid BY PROGRAM, IN A SANDBOX (cutbox-door.mjs). By AI agents, Wed Nov 11 2026. No macro, syntax, notation, axiom, sorry.
-/
import Derived.Test.YtaibmdjcppeopaaGreatDoorRows
import GoSem.ClaimSeven
namespace Go.Proofs.YtaibmdjcppeopaaGreatDoor
namespace Rows

/-- THE TIED CARD OF 'quitrentlaw07.ShotExact'. -/
def shotExactCard : Claim7 := { stood := { row := shotExactRow, standIns := [], harness := (true, "1f84f5352f610ad16f60629bc99ac09de136e52cb68a499fdd80f9b68206d496"), looks := true }, kinds := [], alts := [], laidByText := true, laidKinds := [.data, .sentinel, .sentinel, .sentinel, .sentinel, .sentinel, .sentinel, .sentinel, .sentinel, .sentinel, .sentinel, .sentinel, .sentinel, .sentinel, .sentinel, .pinned], laidTests := true, laidLooks := .later }
def ShotExactCardSaid : Prop := Claim7.holds Tryz.pinned (.plain (OpenSpec.ofChange shotExactSpec)) shotExactCard

/-- THE SECOND FORM's CARD OF 'quitrentlaw07.ShotExact'. -/
def shotExactUptoCard : Claim7 := { stood := { row := shotExactUptoRow, standIns := [], harness := (true, "1f84f5352f610ad16f60629bc99ac09de136e52cb68a499fdd80f9b68206d496"), looks := true }, kinds := [], alts := [], laidByText := true, laidKinds := [.data, .sentinel, .sentinel, .sentinel, .sentinel, .sentinel, .sentinel, .sentinel, .sentinel, .sentinel, .sentinel, .sentinel, .sentinel, .sentinel, .sentinel, .pinned], laidTests := true, laidLooks := .later }
def ShotExactUptoCardSaid : Prop := Claim7.holds Tryz.pinned (.plain (OpenSpec.upto shotExactSpec)) shotExactUptoCard
end Rows
end Go.Proofs.YtaibmdjcppeopaaGreatDoor
