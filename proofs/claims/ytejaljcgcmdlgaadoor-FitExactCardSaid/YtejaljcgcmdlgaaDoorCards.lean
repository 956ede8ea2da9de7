/-
  DERIVED. GIVEN WITH THE SEED: THE CARDS: each row of YtejaljcgcmdlgaaDoorRows.lean that lists a variable, with what it lists TIED to the program's text (the seventh form; the later family's looks); each row that meets fmt, with fmt's text TOLD by the authors' own Lean function (tested against real Go, not proved from fmt's source: count such statements apart). THE CARD IS WHAT COUNTS. Prove the row's statement (the work); the ties are given (YtejaljcgcmdlgaaDoorTie.lean); close each card by the builder's one call (the guide's Derived/Test/ToyasCard.lean, 'card_holds'). Laid BY PROGRAM, IN A SANDBOX (cutbox-door.mjs). By AI agents, Wed Nov 11 2026. No macro, syntax, notation, axiom, sorry.
-/
import Derived.Test.YtejaljcgcmdlgaaDoorRows
import GoSem.ClaimSeven
namespace Go.Proofs.YtejaljcgcmdlgaaDoor
namespace Rows

/-- THE TIED CARD OF 'quitrentlaw16.FitExact'. -/
def fitExactCard : Claim7 := { stood := { row := fitExactRow, standIns := [], harness := (true, "c952e2071ccb0f477c500d487f742e943b9adcffc5942b7cc3e7d3e847f181a1"), looks := false }, kinds := [], alts := [], laidByText := true, laidKinds := [.sentinel, .sentinel], laidTests := true, laidLooks := .later }
def FitExactCardSaid : Prop := Claim7.holds Tryd.pinned (.plain (OpenSpec.ofChange fitExactSpec)) fitExactCard

/-- THE TIED CARD OF 'quitrentlaw16.FitKeeps'. -/
def fitKeepsCard : Claim7 := { stood := { row := fitKeepsRow, standIns := [], harness := (true, "c952e2071ccb0f477c500d487f742e943b9adcffc5942b7cc3e7d3e847f181a1"), looks := false }, kinds := [], alts := [], laidByText := true, laidKinds := [.sentinel, .sentinel], laidTests := true, laidLooks := .later }
def FitKeepsCardSaid : Prop := Claim7.holds Tryd.pinned (.plain (OpenSpec.ofChange fitKeepsSpec)) fitKeepsCard

/-- THE TIED CARD OF 'quitrentlaw16.FitOne'. -/
def fitOneCard : Claim7 := { stood := { row := fitOneRow, standIns := [], harness := (true, "c952e2071ccb0f477c500d487f742e943b9adcffc5942b7cc3e7d3e847f181a1"), looks := false }, kinds := [], alts := [], laidByText := true, laidKinds := [.sentinel, .sentinel], laidTests := true, laidLooks := .later }
def FitOneCardSaid : Prop := Claim7.holds Tryd.pinned (.plain (OpenSpec.ofChange fitOneSpec)) fitOneCard

/-- THE SECOND FORM's CARD OF 'quitrentlaw16.FitExact'. -/
def fitExactUptoCard : Claim7 := { stood := { row := fitExactUptoRow, standIns := [], harness := (true, "c952e2071ccb0f477c500d487f742e943b9adcffc5942b7cc3e7d3e847f181a1"), looks := false }, kinds := [], alts := [], laidByText := true, laidKinds := [.sentinel, .sentinel], laidTests := true, laidLooks := .later }
def FitExactUptoCardSaid : Prop := Claim7.holds Tryd.pinned (.plain (OpenSpec.upto fitExactSpec)) fitExactUptoCard

/-- THE SECOND FORM's CARD OF 'quitrentlaw16.FitKeeps'. -/
def fitKeepsUptoCard : Claim7 := { stood := { row := fitKeepsUptoRow, standIns := [], harness := (true, "c952e2071ccb0f477c500d487f742e943b9adcffc5942b7cc3e7d3e847f181a1"), looks := false }, kinds := [], alts := [], laidByText := true, laidKinds := [.sentinel, .sentinel], laidTests := true, laidLooks := .later }
def FitKeepsUptoCardSaid : Prop := Claim7.holds Tryd.pinned (.plain (OpenSpec.upto fitKeepsSpec)) fitKeepsUptoCard

/-- THE SECOND FORM's CARD OF 'quitrentlaw16.FitOne'. -/
def fitOneUptoCard : Claim7 := { stood := { row := fitOneUptoRow, standIns := [], harness := (true, "c952e2071ccb0f477c500d487f742e943b9adcffc5942b7cc3e7d3e847f181a1"), looks := false }, kinds := [], alts := [], laidByText := true, laidKinds := [.sentinel, .sentinel], laidTests := true, laidLooks := .later }
def FitOneUptoCardSaid : Prop := Claim7.holds Tryd.pinned (.plain (OpenSpec.upto fitOneSpec)) fitOneUptoCard
end Rows
end Go.Proofs.YtejaljcgcmdlgaaDoor
