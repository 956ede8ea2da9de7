/-
  DERIVED. GIVEN WITH THE SEED: THE CARDS: each row of YtmimlniofhngjaaDoorRows.lean that lists a variable, with what it lists TIED to the program's text (the seventh form; the later family's looks); each row that meets fmt, with fmt's text TOLD by the authors' own Lean function (tested against real Go, not proved from fmt's source: count such statements apart). THE CARD IS WHAT COUNTS. Prove the row's statement (the work); the ties are given (YtmimlniofhngjaaDoorTie.lean); close each card by the builder's one call (the guide's Derived/Test/ToyasCard.lean, 'card_holds'). Laid BY PROGRAM, IN A SANDBOX (cutbox-door.mjs). By AI agents, Wed Nov 11 2026. No macro, syntax, notation, axiom, sorry.
-/
import Derived.Test.YtmimlniofhngjaaDoorRows
import GoSem.ClaimSeven
namespace Go.Proofs.YtmimlniofhngjaaDoor
namespace Rows

/-- THE TIED CARD OF 'quitrentlaw12.CeilExact'. -/
def ceilExactCard : Claim7 := { stood := { row := ceilExactRow, standIns := [], harness := (true, "e1d5daf9d4da374afea0891d7184593fe3c5155eae16efc97dadd1c5ed8fa2bb"), looks := true }, kinds := [], alts := [], laidByText := true, laidKinds := [.handle, .sentinel, .sentinel, .sentinel, .sentinel, .sentinel, .sentinel, .sentinel, .sentinel, .sentinel, .sentinel, .sentinel, .sentinel, .sentinel, .sentinel], laidTests := true, laidLooks := .later }
def CeilExactCardSaid : Prop := Claim7.holds Tryd.pinned (.plain (OpenSpec.ofChange ceilExactSpec)) ceilExactCard

/-- THE TIED CARD OF 'quitrentlaw12.CeilKeeps'. -/
def ceilKeepsCard : Claim7 := { stood := { row := ceilKeepsRow, standIns := [], harness := (true, "e1d5daf9d4da374afea0891d7184593fe3c5155eae16efc97dadd1c5ed8fa2bb"), looks := true }, kinds := [], alts := [], laidByText := true, laidKinds := [.handle, .sentinel, .sentinel, .sentinel, .sentinel, .sentinel, .sentinel, .sentinel, .sentinel, .sentinel, .sentinel, .sentinel, .sentinel, .sentinel, .sentinel], laidTests := true, laidLooks := .later }
def CeilKeepsCardSaid : Prop := Claim7.holds Tryd.pinned (.plain (OpenSpec.ofChange ceilKeepsSpec)) ceilKeepsCard

/-- THE TIED CARD OF 'quitrentlaw12.CeilTwice'. -/
def ceilTwiceCard : Claim7 := { stood := { row := ceilTwiceRow, standIns := [], harness := (true, "e1d5daf9d4da374afea0891d7184593fe3c5155eae16efc97dadd1c5ed8fa2bb"), looks := true }, kinds := [], alts := [], laidByText := true, laidKinds := [.handle, .sentinel, .sentinel, .sentinel, .sentinel, .sentinel, .sentinel, .sentinel, .sentinel, .sentinel, .sentinel, .sentinel, .sentinel, .sentinel, .sentinel], laidTests := true, laidLooks := .later }
def CeilTwiceCardSaid : Prop := Claim7.holds Tryd.pinned (.plain (OpenSpec.ofChange ceilTwiceSpec)) ceilTwiceCard

/-- THE SECOND FORM's CARD OF 'quitrentlaw12.CeilExact'. -/
def ceilExactUptoCard : Claim7 := { stood := { row := ceilExactUptoRow, standIns := [], harness := (true, "e1d5daf9d4da374afea0891d7184593fe3c5155eae16efc97dadd1c5ed8fa2bb"), looks := true }, kinds := [], alts := [], laidByText := true, laidKinds := [.handle, .sentinel, .sentinel, .sentinel, .sentinel, .sentinel, .sentinel, .sentinel, .sentinel, .sentinel, .sentinel, .sentinel, .sentinel, .sentinel, .sentinel], laidTests := true, laidLooks := .later }
def CeilExactUptoCardSaid : Prop := Claim7.holds Tryd.pinned (.plain (OpenSpec.upto ceilExactSpec)) ceilExactUptoCard

/-- THE SECOND FORM's CARD OF 'quitrentlaw12.CeilKeeps'. -/
def ceilKeepsUptoCard : Claim7 := { stood := { row := ceilKeepsUptoRow, standIns := [], harness := (true, "e1d5daf9d4da374afea0891d7184593fe3c5155eae16efc97dadd1c5ed8fa2bb"), looks := true }, kinds := [], alts := [], laidByText := true, laidKinds := [.handle, .sentinel, .sentinel, .sentinel, .sentinel, .sentinel, .sentinel, .sentinel, .sentinel, .sentinel, .sentinel, .sentinel, .sentinel, .sentinel, .sentinel], laidTests := true, laidLooks := .later }
def CeilKeepsUptoCardSaid : Prop := Claim7.holds Tryd.pinned (.plain (OpenSpec.upto ceilKeepsSpec)) ceilKeepsUptoCard

/-- THE SECOND FORM's CARD OF 'quitrentlaw12.CeilTwice'. -/
def ceilTwiceUptoCard : Claim7 := { stood := { row := ceilTwiceUptoRow, standIns := [], harness := (true, "e1d5daf9d4da374afea0891d7184593fe3c5155eae16efc97dadd1c5ed8fa2bb"), looks := true }, kinds := [], alts := [], laidByText := true, laidKinds := [.handle, .sentinel, .sentinel, .sentinel, .sentinel, .sentinel, .sentinel, .sentinel, .sentinel, .sentinel, .sentinel, .sentinel, .sentinel, .sentinel, .sentinel], laidTests := true, laidLooks := .later }
def CeilTwiceUptoCardSaid : Prop := Claim7.holds Tryd.pinned (.plain (OpenSpec.upto ceilTwiceSpec)) ceilTwiceUptoCard
end Rows
end Go.Proofs.YtmimlniofhngjaaDoor
