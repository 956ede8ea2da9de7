/-
  DERIVED. GIVEN WITH THE SEED: THE CARDS: each row of YtgioinjcgeepoaaDoorRows.lean that lists a variable, with what it lists TIED to the program's text (the seventh form; the later family's looks); each row that meets fmt, with fmt's text TOLD by the authors' own Lean function (tested against real Go, not proved from fmt's source: count such statements apart). THE CARD IS WHAT COUNTS. Prove the row's statement (the work); the ties are given (YtgioinjcgeepoaaDoorTie.lean); close each card by the builder's one call (the guide's Derived/Test/ToyasCard.lean, 'card_holds'). Laid BY PROGRAM, IN A SANDBOX (cutbox-door.mjs). By AI agents, Wed Nov 11 2026. No macro, syntax, notation, axiom, sorry.
-/
import Derived.Test.YtgioinjcgeepoaaDoorRows
import GoSem.ClaimSeven
namespace Go.Proofs.YtgioinjcgeepoaaDoor
namespace Rows

/-- THE TIED CARD OF 'quitrentlaw10.PurseTotal'. -/
def purseTotalCard : Claim7 := { stood := { row := purseTotalRow, standIns := [], harness := (true, "94bf6fad56b350cf15bfd7b81eb947086257053268a747ee9f48d5ad650a4376"), looks := true }, kinds := [], alts := [], laidByText := true, laidKinds := [.sentinel, .sentinel, .sentinel, .sentinel, .sentinel, .sentinel, .sentinel, .sentinel, .sentinel, .sentinel, .sentinel, .sentinel, .sentinel, .sentinel], laidTests := true, laidLooks := .later }
def PurseTotalCardSaid : Prop := Claim7.holds Tryd.pinned (.plain (OpenSpec.ofChange purseTotalSpec)) purseTotalCard

/-- THE TIED CARD OF 'quitrentlaw10.PurseBack'. -/
def purseBackCard : Claim7 := { stood := { row := purseBackRow, standIns := [], harness := (true, "94bf6fad56b350cf15bfd7b81eb947086257053268a747ee9f48d5ad650a4376"), looks := true }, kinds := [], alts := [], laidByText := true, laidKinds := [.sentinel, .sentinel, .sentinel, .sentinel, .sentinel, .sentinel, .sentinel, .sentinel, .sentinel, .sentinel, .sentinel, .sentinel, .sentinel, .sentinel], laidTests := true, laidLooks := .later }
def PurseBackCardSaid : Prop := Claim7.holds Tryd.pinned (.plain (OpenSpec.ofChange purseBackSpec)) purseBackCard

/-- THE SECOND FORM's CARD OF 'quitrentlaw10.PurseTotal'. -/
def purseTotalUptoCard : Claim7 := { stood := { row := purseTotalUptoRow, standIns := [], harness := (true, "94bf6fad56b350cf15bfd7b81eb947086257053268a747ee9f48d5ad650a4376"), looks := true }, kinds := [], alts := [], laidByText := true, laidKinds := [.sentinel, .sentinel, .sentinel, .sentinel, .sentinel, .sentinel, .sentinel, .sentinel, .sentinel, .sentinel, .sentinel, .sentinel, .sentinel, .sentinel], laidTests := true, laidLooks := .later }
def PurseTotalUptoCardSaid : Prop := Claim7.holds Tryd.pinned (.plain (OpenSpec.upto purseTotalSpec)) purseTotalUptoCard

/-- THE SECOND FORM's CARD OF 'quitrentlaw10.PurseBack'. -/
def purseBackUptoCard : Claim7 := { stood := { row := purseBackUptoRow, standIns := [], harness := (true, "94bf6fad56b350cf15bfd7b81eb947086257053268a747ee9f48d5ad650a4376"), looks := true }, kinds := [], alts := [], laidByText := true, laidKinds := [.sentinel, .sentinel, .sentinel, .sentinel, .sentinel, .sentinel, .sentinel, .sentinel, .sentinel, .sentinel, .sentinel, .sentinel, .sentinel, .sentinel], laidTests := true, laidLooks := .later }
def PurseBackUptoCardSaid : Prop := Claim7.holds Tryd.pinned (.plain (OpenSpec.upto purseBackSpec)) purseBackUptoCard
end Rows
end Go.Proofs.YtgioinjcgeepoaaDoor
