/-
  DERIVED. GIVEN WITH THE SEED: THE CARDS: each row of YtfikkjdkgigikaaDoorRows.lean that lists a variable, with what it lists TIED to the program's text (the seventh form; the later family's looks); each row that meets fmt, with fmt's text TOLD by the authors' own Lean function (tested against real Go, not proved from fmt's source: count such statements apart). THE CARD IS WHAT COUNTS. Prove the row's statement (the work); the ties are given (YtfikkjdkgigikaaDoorTie.lean); close each card by the builder's one call (the guide's Derived/Test/ToyasCard.lean, 'card_holds'). Laid BY PROGRAM, IN A SANDBOX (cutbox-door.mjs). By AI agents, Wed Nov 11 2026. No macro, syntax, notation, axiom, sorry.
-/
import Derived.Test.YtfikkjdkgigikaaDoorRows
import GoSem.ClaimSeven
namespace Go.Proofs.YtfikkjdkgigikaaDoor
namespace Rows

/-- THE TIED CARD OF 'quitrentlaw17.AllocExact'. -/
def allocExactCard : Claim7 := { stood := { row := allocExactRow, standIns := [], harness := (true, "0f0e844538d185c61d28e9cdf9c532d3b2cd1376897b4768aa8aff101f224668"), looks := true }, kinds := [], alts := [], laidByText := true, laidKinds := [.sentinel, .sentinel, .sentinel, .sentinel, .sentinel, .sentinel, .sentinel, .sentinel, .sentinel, .sentinel, .sentinel, .sentinel, .sentinel, .sentinel], laidTests := true, laidLooks := .later }
def AllocExactCardSaid : Prop := Claim7.holds Tryd.pinned (.plain (OpenSpec.ofChange allocExactSpec)) allocExactCard

/-- THE TIED CARD OF 'quitrentlaw17.AllocKeeps'. -/
def allocKeepsCard : Claim7 := { stood := { row := allocKeepsRow, standIns := [], harness := (true, "0f0e844538d185c61d28e9cdf9c532d3b2cd1376897b4768aa8aff101f224668"), looks := true }, kinds := [], alts := [], laidByText := true, laidKinds := [.sentinel, .sentinel, .sentinel, .sentinel, .sentinel, .sentinel, .sentinel, .sentinel, .sentinel, .sentinel, .sentinel, .sentinel, .sentinel, .sentinel], laidTests := true, laidLooks := .later }
def AllocKeepsCardSaid : Prop := Claim7.holds Tryd.pinned (.plain (OpenSpec.ofChange allocKeepsSpec)) allocKeepsCard

/-- THE TIED CARD OF 'quitrentlaw17.AllocBack'. -/
def allocBackCard : Claim7 := { stood := { row := allocBackRow, standIns := [], harness := (true, "0f0e844538d185c61d28e9cdf9c532d3b2cd1376897b4768aa8aff101f224668"), looks := true }, kinds := [], alts := [], laidByText := true, laidKinds := [.sentinel, .sentinel, .sentinel, .sentinel, .sentinel, .sentinel, .sentinel, .sentinel, .sentinel, .sentinel, .sentinel, .sentinel, .sentinel, .sentinel], laidTests := true, laidLooks := .later }
def AllocBackCardSaid : Prop := Claim7.holds Tryd.pinned (.plain (OpenSpec.ofChange allocBackSpec)) allocBackCard

/-- THE SECOND FORM's CARD OF 'quitrentlaw17.AllocExact'. -/
def allocExactUptoCard : Claim7 := { stood := { row := allocExactUptoRow, standIns := [], harness := (true, "0f0e844538d185c61d28e9cdf9c532d3b2cd1376897b4768aa8aff101f224668"), looks := true }, kinds := [], alts := [], laidByText := true, laidKinds := [.sentinel, .sentinel, .sentinel, .sentinel, .sentinel, .sentinel, .sentinel, .sentinel, .sentinel, .sentinel, .sentinel, .sentinel, .sentinel, .sentinel], laidTests := true, laidLooks := .later }
def AllocExactUptoCardSaid : Prop := Claim7.holds Tryd.pinned (.plain (OpenSpec.upto allocExactSpec)) allocExactUptoCard

/-- THE SECOND FORM's CARD OF 'quitrentlaw17.AllocKeeps'. -/
def allocKeepsUptoCard : Claim7 := { stood := { row := allocKeepsUptoRow, standIns := [], harness := (true, "0f0e844538d185c61d28e9cdf9c532d3b2cd1376897b4768aa8aff101f224668"), looks := true }, kinds := [], alts := [], laidByText := true, laidKinds := [.sentinel, .sentinel, .sentinel, .sentinel, .sentinel, .sentinel, .sentinel, .sentinel, .sentinel, .sentinel, .sentinel, .sentinel, .sentinel, .sentinel], laidTests := true, laidLooks := .later }
def AllocKeepsUptoCardSaid : Prop := Claim7.holds Tryd.pinned (.plain (OpenSpec.upto allocKeepsSpec)) allocKeepsUptoCard

/-- THE SECOND FORM's CARD OF 'quitrentlaw17.AllocBack'. -/
def allocBackUptoCard : Claim7 := { stood := { row := allocBackUptoRow, standIns := [], harness := (true, "0f0e844538d185c61d28e9cdf9c532d3b2cd1376897b4768aa8aff101f224668"), looks := true }, kinds := [], alts := [], laidByText := true, laidKinds := [.sentinel, .sentinel, .sentinel, .sentinel, .sentinel, .sentinel, .sentinel, .sentinel, .sentinel, .sentinel, .sentinel, .sentinel, .sentinel, .sentinel], laidTests := true, laidLooks := .later }
def AllocBackUptoCardSaid : Prop := Claim7.holds Tryd.pinned (.plain (OpenSpec.upto allocBackSpec)) allocBackUptoCard
end Rows
end Go.Proofs.YtfikkjdkgigikaaDoor
