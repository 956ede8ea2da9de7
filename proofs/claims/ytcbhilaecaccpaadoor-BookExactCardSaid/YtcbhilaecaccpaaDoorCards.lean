/-
  DERIVED. GIVEN WITH THE SEED: THE CARDS: each row of YtcbhilaecaccpaaDoorRows.lean that lists a variable, with what it lists TIED to the program's text (the seventh form; the later family's looks); each row that meets fmt, with fmt's text TOLD by the authors' own Lean function (tested against real Go, not proved from fmt's source: count such statements apart). THE CARD IS WHAT COUNTS. Prove the row's statement (the work); the ties are given (YtcbhilaecaccpaaDoorTie.lean); close each card by the builder's one call (the guide's Derived/Test/ToyasCard.lean, 'card_holds'). Laid BY PROGRAM, IN A SANDBOX (cutbox-door.mjs). By AI agents, Wed Nov 11 2026. No macro, syntax, notation, axiom, sorry.
-/
import Derived.Test.YtcbhilaecaccpaaDoorRows
import GoSem.ClaimSeven
namespace Go.Proofs.YtcbhilaecaccpaaDoor
namespace Rows

/-- THE TIED CARD OF 'quitrentlaw13.BookExact'. -/
def bookExactCard : Claim7 := { stood := { row := bookExactRow, standIns := [], harness := (true, "a48b6ab70601e3f312bd8625baa05f40e732740241c7d6b2027f05e8671ce030"), looks := true }, kinds := [], alts := [], laidByText := true, laidKinds := [.sentinel, .sentinel, .sentinel, .sentinel, .sentinel, .sentinel, .sentinel, .sentinel, .sentinel, .sentinel, .sentinel, .sentinel, .sentinel, .sentinel], laidTests := true, laidLooks := .later }
def BookExactCardSaid : Prop := Claim7.holds Tryd.pinned (.plain (OpenSpec.ofChange bookExactSpec)) bookExactCard

/-- THE TIED CARD OF 'quitrentlaw13.BookOrder'. -/
def bookOrderCard : Claim7 := { stood := { row := bookOrderRow, standIns := [], harness := (true, "a48b6ab70601e3f312bd8625baa05f40e732740241c7d6b2027f05e8671ce030"), looks := true }, kinds := [], alts := [], laidByText := true, laidKinds := [.sentinel, .sentinel, .sentinel, .sentinel, .sentinel, .sentinel, .sentinel, .sentinel, .sentinel, .sentinel, .sentinel, .sentinel, .sentinel, .sentinel], laidTests := true, laidLooks := .later }
def BookOrderCardSaid : Prop := Claim7.holds Tryd.pinned (.plain (OpenSpec.ofChange bookOrderSpec)) bookOrderCard

/-- THE TIED CARD OF 'quitrentlaw13.BookCuts'. -/
def bookCutsCard : Claim7 := { stood := { row := bookCutsRow, standIns := [], harness := (true, "a48b6ab70601e3f312bd8625baa05f40e732740241c7d6b2027f05e8671ce030"), looks := true }, kinds := [], alts := [], laidByText := true, laidKinds := [.sentinel, .sentinel, .sentinel, .sentinel, .sentinel, .sentinel, .sentinel, .sentinel, .sentinel, .sentinel, .sentinel, .sentinel, .sentinel, .sentinel], laidTests := true, laidLooks := .later }
def BookCutsCardSaid : Prop := Claim7.holds Tryd.pinned (.plain (OpenSpec.ofChange bookCutsSpec)) bookCutsCard

/-- THE SECOND FORM's CARD OF 'quitrentlaw13.BookExact'. -/
def bookExactUptoCard : Claim7 := { stood := { row := bookExactUptoRow, standIns := [], harness := (true, "a48b6ab70601e3f312bd8625baa05f40e732740241c7d6b2027f05e8671ce030"), looks := true }, kinds := [], alts := [], laidByText := true, laidKinds := [.sentinel, .sentinel, .sentinel, .sentinel, .sentinel, .sentinel, .sentinel, .sentinel, .sentinel, .sentinel, .sentinel, .sentinel, .sentinel, .sentinel], laidTests := true, laidLooks := .later }
def BookExactUptoCardSaid : Prop := Claim7.holds Tryd.pinned (.plain (OpenSpec.upto bookExactSpec)) bookExactUptoCard

/-- THE SECOND FORM's CARD OF 'quitrentlaw13.BookOrder'. -/
def bookOrderUptoCard : Claim7 := { stood := { row := bookOrderUptoRow, standIns := [], harness := (true, "a48b6ab70601e3f312bd8625baa05f40e732740241c7d6b2027f05e8671ce030"), looks := true }, kinds := [], alts := [], laidByText := true, laidKinds := [.sentinel, .sentinel, .sentinel, .sentinel, .sentinel, .sentinel, .sentinel, .sentinel, .sentinel, .sentinel, .sentinel, .sentinel, .sentinel, .sentinel], laidTests := true, laidLooks := .later }
def BookOrderUptoCardSaid : Prop := Claim7.holds Tryd.pinned (.plain (OpenSpec.upto bookOrderSpec)) bookOrderUptoCard

/-- THE SECOND FORM's CARD OF 'quitrentlaw13.BookCuts'. -/
def bookCutsUptoCard : Claim7 := { stood := { row := bookCutsUptoRow, standIns := [], harness := (true, "a48b6ab70601e3f312bd8625baa05f40e732740241c7d6b2027f05e8671ce030"), looks := true }, kinds := [], alts := [], laidByText := true, laidKinds := [.sentinel, .sentinel, .sentinel, .sentinel, .sentinel, .sentinel, .sentinel, .sentinel, .sentinel, .sentinel, .sentinel, .sentinel, .sentinel, .sentinel], laidTests := true, laidLooks := .later }
def BookCutsUptoCardSaid : Prop := Claim7.holds Tryd.pinned (.plain (OpenSpec.upto bookCutsSpec)) bookCutsUptoCard
end Rows
end Go.Proofs.YtcbhilaecaccpaaDoor
