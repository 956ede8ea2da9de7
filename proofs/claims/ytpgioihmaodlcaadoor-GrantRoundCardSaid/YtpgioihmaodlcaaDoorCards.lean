/-
  DERIVED. GIVEN WITH THE SEED: THE CARDS: each row of YtpgioihmaodlcaaDoorRows.lean that lists a variable, with what it lists TIED to the program's text (the seventh form; the later family's looks); each row that meets fmt, with fmt's text TOLD by the authors' own Lean function (tested against real Go, not proved from fmt's source: count such statements apart). THE CARD IS WHAT COUNTS. Prove the row's statement (the work); the ties are given (YtpgioihmaodlcaaDoorTie.lean); close each card by the builder's one call (the guide's Derived/Test/ToyasCard.lean, 'card_holds'). Laid BY PROGRAM, IN A SANDBOX (cutbox-door.mjs). By AI agents, Wed Nov 11 2026. No macro, syntax, notation, axiom, sorry.
-/
import Derived.Test.YtpgioihmaodlcaaDoorRows
import GoSem.ClaimSeven
namespace Go.Proofs.YtpgioihmaodlcaaDoor
namespace Rows

/-- THE TIED CARD OF 'quitrentlaw11.GrantTotal'. -/
def grantTotalCard : Claim7 := { stood := { row := grantTotalRow, standIns := [], harness := (true, "c454b8fc0b0fb543528d7575c2f9f006c35f3e007d9f178c280b6ecae3986a81"), looks := true }, kinds := [], alts := [], laidByText := true, laidKinds := [.sentinel, .sentinel, .sentinel, .sentinel, .sentinel, .sentinel, .sentinel, .sentinel, .sentinel, .sentinel, .sentinel, .sentinel, .sentinel, .sentinel], laidTests := true, laidLooks := .later }
def GrantTotalCardSaid : Prop := Claim7.holds Tryd.pinned (.plain (OpenSpec.ofChange grantTotalSpec)) grantTotalCard

/-- THE TIED CARD OF 'quitrentlaw11.GrantRound'. -/
def grantRoundCard : Claim7 := { stood := { row := grantRoundRow, standIns := [], harness := (true, "c454b8fc0b0fb543528d7575c2f9f006c35f3e007d9f178c280b6ecae3986a81"), looks := true }, kinds := [], alts := [], laidByText := true, laidKinds := [.sentinel, .sentinel, .sentinel, .sentinel, .sentinel, .sentinel, .sentinel, .sentinel, .sentinel, .sentinel, .sentinel, .sentinel, .sentinel, .sentinel], laidTests := true, laidLooks := .later }
def GrantRoundCardSaid : Prop := Claim7.holds Tryd.pinned (.plain (OpenSpec.ofChange grantRoundSpec)) grantRoundCard

/-- THE SECOND FORM's CARD OF 'quitrentlaw11.GrantTotal'. -/
def grantTotalUptoCard : Claim7 := { stood := { row := grantTotalUptoRow, standIns := [], harness := (true, "c454b8fc0b0fb543528d7575c2f9f006c35f3e007d9f178c280b6ecae3986a81"), looks := true }, kinds := [], alts := [], laidByText := true, laidKinds := [.sentinel, .sentinel, .sentinel, .sentinel, .sentinel, .sentinel, .sentinel, .sentinel, .sentinel, .sentinel, .sentinel, .sentinel, .sentinel, .sentinel], laidTests := true, laidLooks := .later }
def GrantTotalUptoCardSaid : Prop := Claim7.holds Tryd.pinned (.plain (OpenSpec.upto grantTotalSpec)) grantTotalUptoCard

/-- THE SECOND FORM's CARD OF 'quitrentlaw11.GrantRound'. -/
def grantRoundUptoCard : Claim7 := { stood := { row := grantRoundUptoRow, standIns := [], harness := (true, "c454b8fc0b0fb543528d7575c2f9f006c35f3e007d9f178c280b6ecae3986a81"), looks := true }, kinds := [], alts := [], laidByText := true, laidKinds := [.sentinel, .sentinel, .sentinel, .sentinel, .sentinel, .sentinel, .sentinel, .sentinel, .sentinel, .sentinel, .sentinel, .sentinel, .sentinel, .sentinel], laidTests := true, laidLooks := .later }
def GrantRoundUptoCardSaid : Prop := Claim7.holds Tryd.pinned (.plain (OpenSpec.upto grantRoundSpec)) grantRoundUptoCard
end Rows
end Go.Proofs.YtpgioihmaodlcaaDoor
