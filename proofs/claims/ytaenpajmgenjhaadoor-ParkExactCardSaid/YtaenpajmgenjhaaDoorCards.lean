/-
  DERIVED. GIVEN WITH THE SEED: THE CARDS: each row of YtaenpajmgenjhaaDoorRows.lean that lists a variable, with what it lists TIED to the program's text (the seventh form; the later family's looks); each row that meets fmt, with fmt's text TOLD by the authors' own Lean function (tested against real Go, not proved from fmt's source: count such statements apart). THE CARD IS WHAT COUNTS. Prove the row's statement (the work); the ties are given (YtaenpajmgenjhaaDoorTie.lean); close each card by the builder's one call (the guide's Derived/Test/ToyasCard.lean, 'card_holds'). Laid BY PROGRAM, IN A SANDBOX (cutbox-door.mjs). By AI agents, Wed Nov 11 2026. No macro, syntax, notation, axiom, sorry.
-/
import Derived.Test.YtaenpajmgenjhaaDoorRows
import GoSem.ClaimSeven
namespace Go.Proofs.YtaenpajmgenjhaaDoor
namespace Rows

/-- THE TIED CARD OF 'quitrentlaw15.ParkExact'. -/
def parkExactCard : Claim7 := { stood := { row := parkExactRow, standIns := [], harness := (true, "3dacff5692019d16d3841112be0b18cdda173e4d91fb3e01262c559837d42ced"), looks := true }, kinds := [], alts := [], laidByText := true, laidKinds := [.sentinel, .sentinel, .sentinel, .sentinel, .sentinel, .sentinel, .sentinel, .sentinel, .sentinel, .sentinel, .sentinel, .sentinel, .sentinel, .sentinel], laidTests := true, laidLooks := .later }
def ParkExactCardSaid : Prop := Claim7.holds Tryd.pinned (.plain (OpenSpec.ofChange parkExactSpec)) parkExactCard

/-- THE TIED CARD OF 'quitrentlaw15.ParkLive'. -/
def parkLiveCard : Claim7 := { stood := { row := parkLiveRow, standIns := [], harness := (true, "3dacff5692019d16d3841112be0b18cdda173e4d91fb3e01262c559837d42ced"), looks := true }, kinds := [], alts := [], laidByText := true, laidKinds := [.sentinel, .sentinel, .sentinel, .sentinel, .sentinel, .sentinel, .sentinel, .sentinel, .sentinel, .sentinel, .sentinel, .sentinel, .sentinel, .sentinel], laidTests := true, laidLooks := .later }
def ParkLiveCardSaid : Prop := Claim7.holds Tryd.pinned (.plain (OpenSpec.ofChange parkLiveSpec)) parkLiveCard

/-- THE TIED CARD OF 'quitrentlaw15.ParkEnd'. -/
def parkEndCard : Claim7 := { stood := { row := parkEndRow, standIns := [], harness := (true, "3dacff5692019d16d3841112be0b18cdda173e4d91fb3e01262c559837d42ced"), looks := true }, kinds := [], alts := [], laidByText := true, laidKinds := [.sentinel, .sentinel, .sentinel, .sentinel, .sentinel, .sentinel, .sentinel, .sentinel, .sentinel, .sentinel, .sentinel, .sentinel, .sentinel, .sentinel], laidTests := true, laidLooks := .later }
def ParkEndCardSaid : Prop := Claim7.holds Tryd.pinned (.plain (OpenSpec.ofChange parkEndSpec)) parkEndCard

/-- THE SECOND FORM's CARD OF 'quitrentlaw15.ParkExact'. -/
def parkExactUptoCard : Claim7 := { stood := { row := parkExactUptoRow, standIns := [], harness := (true, "3dacff5692019d16d3841112be0b18cdda173e4d91fb3e01262c559837d42ced"), looks := true }, kinds := [], alts := [], laidByText := true, laidKinds := [.sentinel, .sentinel, .sentinel, .sentinel, .sentinel, .sentinel, .sentinel, .sentinel, .sentinel, .sentinel, .sentinel, .sentinel, .sentinel, .sentinel], laidTests := true, laidLooks := .later }
def ParkExactUptoCardSaid : Prop := Claim7.holds Tryd.pinned (.plain (OpenSpec.upto parkExactSpec)) parkExactUptoCard

/-- THE SECOND FORM's CARD OF 'quitrentlaw15.ParkLive'. -/
def parkLiveUptoCard : Claim7 := { stood := { row := parkLiveUptoRow, standIns := [], harness := (true, "3dacff5692019d16d3841112be0b18cdda173e4d91fb3e01262c559837d42ced"), looks := true }, kinds := [], alts := [], laidByText := true, laidKinds := [.sentinel, .sentinel, .sentinel, .sentinel, .sentinel, .sentinel, .sentinel, .sentinel, .sentinel, .sentinel, .sentinel, .sentinel, .sentinel, .sentinel], laidTests := true, laidLooks := .later }
def ParkLiveUptoCardSaid : Prop := Claim7.holds Tryd.pinned (.plain (OpenSpec.upto parkLiveSpec)) parkLiveUptoCard

/-- THE SECOND FORM's CARD OF 'quitrentlaw15.ParkEnd'. -/
def parkEndUptoCard : Claim7 := { stood := { row := parkEndUptoRow, standIns := [], harness := (true, "3dacff5692019d16d3841112be0b18cdda173e4d91fb3e01262c559837d42ced"), looks := true }, kinds := [], alts := [], laidByText := true, laidKinds := [.sentinel, .sentinel, .sentinel, .sentinel, .sentinel, .sentinel, .sentinel, .sentinel, .sentinel, .sentinel, .sentinel, .sentinel, .sentinel, .sentinel], laidTests := true, laidLooks := .later }
def ParkEndUptoCardSaid : Prop := Claim7.holds Tryd.pinned (.plain (OpenSpec.upto parkEndSpec)) parkEndUptoCard
end Rows
end Go.Proofs.YtaenpajmgenjhaaDoor
