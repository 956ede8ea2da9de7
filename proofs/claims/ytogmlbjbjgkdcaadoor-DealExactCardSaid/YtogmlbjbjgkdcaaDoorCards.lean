/-
  DERIVED. GIVEN WITH THE SEED: THE CARDS: each row of YtogmlbjbjgkdcaaDoorRows.lean that lists a variable, with what it lists TIED to the program's text (the seventh form; the later family's looks); each row that meets fmt, with fmt's text TOLD by the authors' own Lean function (tested against real Go, not proved from fmt's source: count such statements apart). THE CARD IS WHAT COUNTS. Prove the row's statement (the work); the ties are given (YtogmlbjbjgkdcaaDoorTie.lean); close each card by the builder's one call (the guide's Derived/Test/ToyasCard.lean, 'card_holds'). Laid BY PROGRAM, IN A SANDBOX (cutbox-door.mjs). By AI agents, Wed Nov 11 2026. No macro, syntax, notation, axiom, sorry.
-/
import Derived.Test.YtogmlbjbjgkdcaaDoorRows
import GoSem.ClaimSeven
namespace Go.Proofs.YtogmlbjbjgkdcaaDoor
namespace Rows

/-- THE TIED CARD OF 'quitrentlaw14.DealExact'. -/
def dealExactCard : Claim7 := { stood := { row := dealExactRow, standIns := [], harness := (true, "f446d1353eb6b19360793f3f2b13eb17bd55d375f3a0ed024e274d2cc087a2b4"), looks := true }, kinds := [], alts := [], laidByText := true, laidKinds := [.sentinel, .sentinel, .sentinel, .sentinel, .sentinel, .sentinel, .sentinel, .sentinel, .sentinel, .sentinel, .sentinel, .sentinel, .sentinel, .sentinel], laidTests := true, laidLooks := .later }
def DealExactCardSaid : Prop := Claim7.holds Tryd.pinned (.plain (OpenSpec.ofChange dealExactSpec)) dealExactCard

/-- THE TIED CARD OF 'quitrentlaw14.DealFair'. -/
def dealFairCard : Claim7 := { stood := { row := dealFairRow, standIns := [], harness := (true, "f446d1353eb6b19360793f3f2b13eb17bd55d375f3a0ed024e274d2cc087a2b4"), looks := true }, kinds := [], alts := [], laidByText := true, laidKinds := [.sentinel, .sentinel, .sentinel, .sentinel, .sentinel], laidTests := true, laidLooks := .later }
def DealFairCardSaid : Prop := Claim7.holds Tryd.pinned (.plain (OpenSpec.ofChange dealFairSpec)) dealFairCard

/-- THE TIED CARD OF 'quitrentlaw14.DealParts'. -/
def dealPartsCard : Claim7 := { stood := { row := dealPartsRow, standIns := [], harness := (true, "f446d1353eb6b19360793f3f2b13eb17bd55d375f3a0ed024e274d2cc087a2b4"), looks := true }, kinds := [], alts := [], laidByText := true, laidKinds := [.sentinel, .sentinel, .sentinel, .sentinel, .sentinel], laidTests := true, laidLooks := .later }
def DealPartsCardSaid : Prop := Claim7.holds Tryd.pinned (.plain (OpenSpec.ofChange dealPartsSpec)) dealPartsCard

/-- THE SECOND FORM's CARD OF 'quitrentlaw14.DealExact'. -/
def dealExactUptoCard : Claim7 := { stood := { row := dealExactUptoRow, standIns := [], harness := (true, "f446d1353eb6b19360793f3f2b13eb17bd55d375f3a0ed024e274d2cc087a2b4"), looks := true }, kinds := [], alts := [], laidByText := true, laidKinds := [.sentinel, .sentinel, .sentinel, .sentinel, .sentinel, .sentinel, .sentinel, .sentinel, .sentinel, .sentinel, .sentinel, .sentinel, .sentinel, .sentinel], laidTests := true, laidLooks := .later }
def DealExactUptoCardSaid : Prop := Claim7.holds Tryd.pinned (.plain (OpenSpec.upto dealExactSpec)) dealExactUptoCard

/-- THE SECOND FORM's CARD OF 'quitrentlaw14.DealFair'. -/
def dealFairUptoCard : Claim7 := { stood := { row := dealFairUptoRow, standIns := [], harness := (true, "f446d1353eb6b19360793f3f2b13eb17bd55d375f3a0ed024e274d2cc087a2b4"), looks := true }, kinds := [], alts := [], laidByText := true, laidKinds := [.sentinel, .sentinel, .sentinel, .sentinel, .sentinel], laidTests := true, laidLooks := .later }
def DealFairUptoCardSaid : Prop := Claim7.holds Tryd.pinned (.plain (OpenSpec.upto dealFairSpec)) dealFairUptoCard

/-- THE SECOND FORM's CARD OF 'quitrentlaw14.DealParts'. -/
def dealPartsUptoCard : Claim7 := { stood := { row := dealPartsUptoRow, standIns := [], harness := (true, "f446d1353eb6b19360793f3f2b13eb17bd55d375f3a0ed024e274d2cc087a2b4"), looks := true }, kinds := [], alts := [], laidByText := true, laidKinds := [.sentinel, .sentinel, .sentinel, .sentinel, .sentinel], laidTests := true, laidLooks := .later }
def DealPartsUptoCardSaid : Prop := Claim7.holds Tryd.pinned (.plain (OpenSpec.upto dealPartsSpec)) dealPartsUptoCard
end Rows
end Go.Proofs.YtogmlbjbjgkdcaaDoor
