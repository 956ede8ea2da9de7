/-
  DERIVED. GIVEN WITH THE SEED: THE CARDS: each row of YtcihghkiidkcnaaDoorRows.lean that lists a variable, with what it lists TIED to the program's text (the seventh form; the later family's looks); each row that meets fmt, with fmt's text TOLD by the authors' own Lean function (tested against real Go, not proved from fmt's source: count such statements apart). THE CARD IS WHAT COUNTS. Prove the row's statement (the work); the ties are given (YtcihghkiidkcnaaDoorTie.lean); close each card by the builder's one call (the guide's Derived/Test/ToyasCard.lean, 'card_holds'). Laid BY PROGRAM, IN A SANDBOX (cutbox-door.mjs). By AI agents, Wed Nov 11 2026. No macro, syntax, notation, axiom, sorry.
-/
import Derived.Test.YtcihghkiidkcnaaDoorRows
import GoSem.ClaimSeven
namespace Go.Proofs.YtcihghkiidkcnaaDoor
namespace Rows

/-- THE TIED CARD OF 'quitrentlaw14.DealFair'. -/
def dealFairCard : Claim7 := { stood := { row := dealFairRow, standIns := [], harness := (true, "8aad0fc2b753d1852930e279cc9aaa4c62ba86b1bf7499554fe0a377e6d1fd1e"), looks := false }, kinds := [], alts := [], laidByText := true, laidKinds := [.sentinel, .sentinel, .sentinel, .sentinel, .sentinel], laidTests := true, laidLooks := .later }
def DealFairCardSaid : Prop := Claim7.holds Tryd.pinned (.plain (OpenSpec.ofChange dealFairSpec)) dealFairCard

/-- THE TIED CARD OF 'quitrentlaw14.DealParts'. -/
def dealPartsCard : Claim7 := { stood := { row := dealPartsRow, standIns := [], harness := (true, "8aad0fc2b753d1852930e279cc9aaa4c62ba86b1bf7499554fe0a377e6d1fd1e"), looks := false }, kinds := [], alts := [], laidByText := true, laidKinds := [.sentinel, .sentinel, .sentinel, .sentinel, .sentinel], laidTests := true, laidLooks := .later }
def DealPartsCardSaid : Prop := Claim7.holds Tryd.pinned (.plain (OpenSpec.ofChange dealPartsSpec)) dealPartsCard

/-- THE SECOND FORM's CARD OF 'quitrentlaw14.DealFair'. -/
def dealFairUptoCard : Claim7 := { stood := { row := dealFairUptoRow, standIns := [], harness := (true, "8aad0fc2b753d1852930e279cc9aaa4c62ba86b1bf7499554fe0a377e6d1fd1e"), looks := false }, kinds := [], alts := [], laidByText := true, laidKinds := [.sentinel, .sentinel, .sentinel, .sentinel, .sentinel], laidTests := true, laidLooks := .later }
def DealFairUptoCardSaid : Prop := Claim7.holds Tryd.pinned (.plain (OpenSpec.upto dealFairSpec)) dealFairUptoCard

/-- THE SECOND FORM's CARD OF 'quitrentlaw14.DealParts'. -/
def dealPartsUptoCard : Claim7 := { stood := { row := dealPartsUptoRow, standIns := [], harness := (true, "8aad0fc2b753d1852930e279cc9aaa4c62ba86b1bf7499554fe0a377e6d1fd1e"), looks := false }, kinds := [], alts := [], laidByText := true, laidKinds := [.sentinel, .sentinel, .sentinel, .sentinel, .sentinel], laidTests := true, laidLooks := .later }
def DealPartsUptoCardSaid : Prop := Claim7.holds Tryd.pinned (.plain (OpenSpec.upto dealPartsSpec)) dealPartsUptoCard
end Rows
end Go.Proofs.YtcihghkiidkcnaaDoor
