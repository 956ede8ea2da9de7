/-
  DERIVED. GIVEN WITH THE SEED: THE CARDS: each row of YtlckofoabnnlhaaDoorRows.lean that lists a variable, with what it lists TIED to the program's text (the seventh form; the later family's looks); each row that meets fmt, with fmt's text TOLD by the authors' own Lean function (tested against real Go, not proved from fmt's source: count such statements apart). THE CARD IS WHAT COUNTS. Prove the row's statement (the work); the ties are given (YtlckofoabnnlhaaDoorTie.lean); close each card by the builder's one call (the guide's Derived/Test/ToyasCard.lean, 'card_holds'). Laid BY PROGRAM, IN A SANDBOX (cutbox-door.mjs). By AI agents, Wed Nov 11 2026. No macro, syntax, notation, axiom, sorry.
-/
import Derived.Test.YtlckofoabnnlhaaDoorRows
import GoSem.ClaimSeven
namespace Go.Proofs.YtlckofoabnnlhaaDoor
namespace Rows

/-- THE TIED CARD OF 'quitrentlaw20.VictimFair'. -/
def victimFairCard : Claim7 := { stood := { row := victimFairRow, standIns := [], harness := (true, "3551f516f59a831bd9b13f3d36546adb06f820ab5339bccaef4edda6a0fbbbbf"), looks := true }, kinds := [], alts := [], laidByText := true, laidKinds := [.sentinel, .sentinel, .sentinel, .sentinel, .sentinel, .sentinel, .sentinel, .sentinel, .sentinel, .sentinel, .sentinel, .sentinel, .sentinel, .sentinel], laidTests := true, laidLooks := .later }
def VictimFairCardSaid : Prop := Claim7.holds Tryd.pinned (.plain (OpenSpec.ofChange victimFairSpec)) victimFairCard

/-- THE TIED CARD OF 'quitrentlaw20.VictimNone'. -/
def victimNoneCard : Claim7 := { stood := { row := victimNoneRow, standIns := [], harness := (true, "3551f516f59a831bd9b13f3d36546adb06f820ab5339bccaef4edda6a0fbbbbf"), looks := true }, kinds := [], alts := [], laidByText := true, laidKinds := [.sentinel, .sentinel, .sentinel, .sentinel, .sentinel, .sentinel, .sentinel, .sentinel, .sentinel, .sentinel, .sentinel, .sentinel, .sentinel, .sentinel], laidTests := true, laidLooks := .later }
def VictimNoneCardSaid : Prop := Claim7.holds Tryd.pinned (.plain (OpenSpec.ofChange victimNoneSpec)) victimNoneCard

/-- THE SECOND FORM's CARD OF 'quitrentlaw20.VictimFair'. -/
def victimFairUptoCard : Claim7 := { stood := { row := victimFairUptoRow, standIns := [], harness := (true, "3551f516f59a831bd9b13f3d36546adb06f820ab5339bccaef4edda6a0fbbbbf"), looks := true }, kinds := [], alts := [], laidByText := true, laidKinds := [.sentinel, .sentinel, .sentinel, .sentinel, .sentinel, .sentinel, .sentinel, .sentinel, .sentinel, .sentinel, .sentinel, .sentinel, .sentinel, .sentinel], laidTests := true, laidLooks := .later }
def VictimFairUptoCardSaid : Prop := Claim7.holds Tryd.pinned (.plain (OpenSpec.upto victimFairSpec)) victimFairUptoCard

/-- THE SECOND FORM's CARD OF 'quitrentlaw20.VictimNone'. -/
def victimNoneUptoCard : Claim7 := { stood := { row := victimNoneUptoRow, standIns := [], harness := (true, "3551f516f59a831bd9b13f3d36546adb06f820ab5339bccaef4edda6a0fbbbbf"), looks := true }, kinds := [], alts := [], laidByText := true, laidKinds := [.sentinel, .sentinel, .sentinel, .sentinel, .sentinel, .sentinel, .sentinel, .sentinel, .sentinel, .sentinel, .sentinel, .sentinel, .sentinel, .sentinel], laidTests := true, laidLooks := .later }
def VictimNoneUptoCardSaid : Prop := Claim7.holds Tryd.pinned (.plain (OpenSpec.upto victimNoneSpec)) victimNoneUptoCard
end Rows
end Go.Proofs.YtlckofoabnnlhaaDoor
