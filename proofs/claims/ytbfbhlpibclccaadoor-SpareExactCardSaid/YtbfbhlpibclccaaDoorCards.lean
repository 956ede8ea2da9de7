/-
  DERIVED. GIVEN WITH THE SEED: THE CARDS: each row of YtbfbhlpibclccaaDoorRows.lean that lists a variable, with what it lists TIED to the program's text (the seventh form; the later family's looks); each row that meets fmt, with fmt's text TOLD by the authors' own Lean function (tested against real Go, not proved from fmt's source: count such statements apart). THE CARD IS WHAT COUNTS. Prove the row's statement (the work); the ties are given (YtbfbhlpibclccaaDoorTie.lean); close each card by the builder's one call (the guide's Derived/Test/ToyasCard.lean, 'card_holds'). Laid BY PROGRAM, IN A SANDBOX (cutbox-door.mjs). By AI agents, Wed Nov 11 2026. No macro, syntax, notation, axiom, sorry.
-/
import Derived.Test.YtbfbhlpibclccaaDoorRows
import GoSem.ClaimSeven
namespace Go.Proofs.YtbfbhlpibclccaaDoor
namespace Rows

/-- THE TIED CARD OF 'quitrentlaw18.JobExact'. -/
def jobExactCard : Claim7 := { stood := { row := jobExactRow, standIns := [], harness := (true, "009ff76da1ccdce0e9a88ec572442544f385270cd7398a09d757bec145fc342c"), looks := true }, kinds := [], alts := [], laidByText := true, laidKinds := [.sentinel, .sentinel, .sentinel, .sentinel, .sentinel, .sentinel, .sentinel, .sentinel, .sentinel, .sentinel, .sentinel, .sentinel, .sentinel, .sentinel], laidTests := true, laidLooks := .later }
def JobExactCardSaid : Prop := Claim7.holds Tryd.pinned (.plain (OpenSpec.ofChange jobExactSpec)) jobExactCard

/-- THE TIED CARD OF 'quitrentlaw19.SpareExact'. -/
def spareExactCard : Claim7 := { stood := { row := spareExactRow, standIns := [], harness := (true, "009ff76da1ccdce0e9a88ec572442544f385270cd7398a09d757bec145fc342c"), looks := true }, kinds := [], alts := [], laidByText := true, laidKinds := [.sentinel], laidTests := true, laidLooks := .later }
def SpareExactCardSaid : Prop := Claim7.holds Tryd.pinned (.plain (OpenSpec.ofChange spareExactSpec)) spareExactCard

/-- THE TIED CARD OF 'quitrentlaw19.SpareForced'. -/
def spareForcedCard : Claim7 := { stood := { row := spareForcedRow, standIns := [], harness := (true, "009ff76da1ccdce0e9a88ec572442544f385270cd7398a09d757bec145fc342c"), looks := true }, kinds := [], alts := [], laidByText := true, laidKinds := [.sentinel], laidTests := true, laidLooks := .later }
def SpareForcedCardSaid : Prop := Claim7.holds Tryd.pinned (.plain (OpenSpec.ofChange spareForcedSpec)) spareForcedCard

/-- THE SECOND FORM's CARD OF 'quitrentlaw18.JobExact'. -/
def jobExactUptoCard : Claim7 := { stood := { row := jobExactUptoRow, standIns := [], harness := (true, "009ff76da1ccdce0e9a88ec572442544f385270cd7398a09d757bec145fc342c"), looks := true }, kinds := [], alts := [], laidByText := true, laidKinds := [.sentinel, .sentinel, .sentinel, .sentinel, .sentinel, .sentinel, .sentinel, .sentinel, .sentinel, .sentinel, .sentinel, .sentinel, .sentinel, .sentinel], laidTests := true, laidLooks := .later }
def JobExactUptoCardSaid : Prop := Claim7.holds Tryd.pinned (.plain (OpenSpec.upto jobExactSpec)) jobExactUptoCard

/-- THE SECOND FORM's CARD OF 'quitrentlaw19.SpareExact'. -/
def spareExactUptoCard : Claim7 := { stood := { row := spareExactUptoRow, standIns := [], harness := (true, "009ff76da1ccdce0e9a88ec572442544f385270cd7398a09d757bec145fc342c"), looks := true }, kinds := [], alts := [], laidByText := true, laidKinds := [.sentinel], laidTests := true, laidLooks := .later }
def SpareExactUptoCardSaid : Prop := Claim7.holds Tryd.pinned (.plain (OpenSpec.upto spareExactSpec)) spareExactUptoCard

/-- THE SECOND FORM's CARD OF 'quitrentlaw19.SpareForced'. -/
def spareForcedUptoCard : Claim7 := { stood := { row := spareForcedUptoRow, standIns := [], harness := (true, "009ff76da1ccdce0e9a88ec572442544f385270cd7398a09d757bec145fc342c"), looks := true }, kinds := [], alts := [], laidByText := true, laidKinds := [.sentinel], laidTests := true, laidLooks := .later }
def SpareForcedUptoCardSaid : Prop := Claim7.holds Tryd.pinned (.plain (OpenSpec.upto spareForcedSpec)) spareForcedUptoCard
end Rows
end Go.Proofs.YtbfbhlpibclccaaDoor
